import PyProof.Rows.All
import Lean
import PyProof.EqAt
import PyProof.EqKinds
import PyProof.TupleCall
import PyProof.NeKinds
import PyProof.ZipIter
import PyProof.WalksEnum
import PyProof.CompUse
import PyProof.ListRange
import PyProof.Rows.SetFrom
import PyProof.Rows.SortWalk
import PyProof.Rows.SeqMore2
import PyProof.SetRoads
import KE.KRevIter
import PyProof.WalksMore
import PyProof.AutoRange
import PyProof.ListNew
import PyProof.Wp
import PyProof.Logic
import PyProof.StationsW
import PyProof.ExcClass2
import OpenK.KGet
import PyProof.Rows.SortRunsK
import PyProof.Rows.SortShellK
import KE.KDictSum
import PyProof.DictTruth
import PyProof.RangeIter
import PyProof.RaisesMany
import PyProof.AutoListH
import PySem.Challenge.RW_lotmeal_k50_lies_refused
import KE.KIsAll
import KE.RegKIsAll
import KE.KTurns
import KE.KItem
import KE.LcSums
import KE.IntBitsLaws
set_option Elab.async false
set_option linter.all false
set_option maxRecDepth 100000
set_option maxHeartbeats 4000000
namespace L2
open PySem PySem.W
section
variable {tb:String->Option Builtin}{p:Program}{w:World}{n₀:Nat}{ann:Option Value}
def tE (tb:String->Option Builtin)(p:Program)(w:World)(n₀:Nat)(ann:Option Value):Nat->SharedT->Thread->Option SharedT
 |0,_,_=>none
 |n+1,s,t=>match through t with
  |true=>some s
  |false=>match stepOk n₀ ann t with
   |false=>none
   |true=>match stepT (denote tb) p w s t with
    |some (s',t')=>tE tb p w n₀ ann n s' t'
    |none=>none
theorem Kp:∀ {n:Nat} {s s':SharedT} {t:Thread},tE tb p w n₀ ann n s t=some s'->topRun tb p w n₀ ann n s.abs t=some s'.abs
 |0,_,_,_,h=>by cases h
 |n+1,s,s',t,h=>by
  unfold tE at h
  unfold topRun
  cases ht:through t with
  |true=>rw [ht] at h;cases h;rfl
  |false =>
   rw [ht] at h
   cases hk:stepOk n₀ ann t with
   |false=>rw [hk] at h;cases h
   |true =>
    rw [hk] at h
    cases hs:stepT (denote tb) p w s t with
    |none=>rw [hs] at h;cases h
    |some r=>obtain ⟨kK,ae2⟩:=r;rw [hs] at h;rw [stepT_spec hs];exact Kp h
end
def treeOf (l:List Obj):Nat->Nat->Nat->BT
 |0,_,_=>.nil
 |f+1,a,b=>match l[b]? with
  |some o=>.node o (treeOf l f (2*a) (a+b)) (treeOf l f (2*a) (2*a+b))
  |none=>.nil
theorem TY {p q:Program}{loose:List Str}{Xt:Shared->Bool}{α:Type}{Yf:Shared->α}{Ya:World->α}{N:Nat}{g0:Bool}{T₀:Params->BT}{n₀:Nat}{life:Life}{wj:Array GenState}{C9:Drawn}{Dc:Nat}{ann:Option Value}{M:Nat}(Y8:∀ w:World,(fencedOpening treeTable p w N).map (fun s=>(s.heap,s.gens,s.drawn,s.toks))=some (absHeap (T₀ w.params) n₀ life,wj,C9,Dc))(size:∀ w:World,((absHeap (T₀ w.params) n₀ life).isNs mainGlobals&&wj.size==0,(absHeap (T₀ w.params) n₀ life).nsMap mainGlobals "__annotations__")=(true,ann))(run:∀ (w:World),(fun os=>(tE treeTable p w n₀ ann M ⟨T₀ w.params,n₀,life,wj,C9,Dc,os⟩ (topStub p)).map fun st=>((staticsOk (importedModules p.main.body) (absHeap (T₀ w.params) n₀ life) st.abs.heap&&namesBound p st.abs.heap&&gensDone st.abs&&laidKept (absHeap (T₀ w.params) n₀ life) st.abs.heap),openSeen q loose (importedModules p.main.body) Xt g0 st.abs,Yf st.abs))=fun _=>some (true,openGood q loose,Ya w))(le:Nat.ble M N=true):LeftO p q loose Xt Yf Ya N g0:=fun w=>by
 obtain ⟨⟨h,gs,d,k,os⟩,e,e'⟩:=Option.map_eq_some_iff.mp (Y8 w)
 obtain ⟨rfl,rfl,rfl,rfl⟩:h=absHeap (T₀ w.params) n₀ life/\gs=wj/\d=C9/\k=Dc:=by simpa using e'
 obtain ⟨z1,z3⟩:=Prod.mk.inj (size w)
 obtain ⟨st,hr,hl⟩:=Option.map_eq_some_iff.mp (congrFun (run w) os)
 obtain ⟨l1,hl⟩:=Prod.mk.inj hl
 obtain ⟨l2,l3⟩:=Prod.mk.inj hl
 have r:=topRun_mono (N-M) _ _ _ _ (Kp hr)
 rw [show M+(N-M)=N by have:=Nat.le_of_ble_eq_true le;omega] at r
 have t:topFrom treeTable p w N ⟨absHeap (T₀ w.params) n₀ life,gs,d,k,os⟩=some st.abs:=by
  unfold topFrom
  dsimp only
  rw [z1,absHeap_size,z3]
  have r':topRun treeTable p w n₀ ann N ⟨absHeap (T₀ w.params) n₀ life,gs,d,k,os⟩ (topStub p)=some st.abs:=r
  rw [r']
  show (match staticsOk (importedModules p.main.body) (absHeap (T₀ w.params) n₀ life) st.abs.heap&&namesBound p st.abs.heap&&gensDone st.abs&&laidKept (absHeap (T₀ w.params) n₀ life) st.abs.heap with | true=>_ | false=>_)=_
  rw [l1]
 unfold openEnds
 rw [e]
 show (topFrom treeTable p w N _).map _=_
 rw [t]
 exact congrArg some (Prod.ext l2 l3)
noncomputable def nB (P:Params):BT:=treeOf (boot_heap P).objs.toList 12 1 0
theorem boot_abs (P:Params):absHeap (nB P) 11 {}=boot_heap P:=by kernel_rfl
theorem TZ (w:World):((absHeap (nB w.params) 11 {}).isNs mainGlobals&&(Array.mk []:Array GenState).size==0,(absHeap (nB w.params) 11 {}).nsMap mainGlobals "__annotations__")=(true,some (.ref 6)):=by kernel_rfl
noncomputable def lP (p:Program) (w:World) (N:Nat) (os:OsState):Option SharedT:=tE treeTable p w 11 (some (.ref 6)) N ⟨nB w.params,11,{},Array.mk [],boot_drawn,boot_toks,os⟩ (topStub p)
noncomputable def sI (p:Program) (w:World) (st:SharedT):Bool:=staticsOk (importedModules p.main.body) (absHeap (nB w.params) 11 {}) st.abs.heap&&namesBound p st.abs.heap&&gensDone st.abs&&laidKept (absHeap (nB w.params) 11 {}) st.abs.heap
theorem T4 {p q:Program}{loose:List Str}{Xt:Shared->Bool}{α:Type}{Yf:Shared->α}{Ya:World->α}{N:Nat}{g0:Bool}(e:opening p=plainProg p.main.scope.names)(hN:Nat.ble 600 N=true)(f:∀ s,fenceModules? p s=some s)(r1:∀ w:World,(fun os=>(lP p w N os).map fun st=>sI p w st)=fun _=>some true)(r2:∀ w:World,(fun os=>(lP p w N os).map fun st=>openSeen q loose (importedModules p.main.body) Xt g0 st.abs)=fun _=>some (openGood q loose))(r3:∀ w:World,(fun os=>(lP p w N os).map fun st=>Yf st.abs)=fun _=>some (Ya w)):LeftO p q loose Xt Yf Ya N g0 :=
 TY (T₀:=nB) (n₀:=11) (life:={}) (ann:=some (.ref 6)) (fun w=>(boot_open e hN f w).trans (by rw [boot_abs])) TZ (fun w=>funext fun os=>by
  have a:=congrFun (r1 w) os
  have b:=congrFun (r2 w) os
  have c:=congrFun (r3 w) os
  show (lP p w N os).map (fun st=>(sI p w st,openSeen q loose (importedModules p.main.body) Xt g0 st.abs,Yf st.abs))=_
  cases h:lP p w N os with
  |none=>rw [h] at a;cases a
  |some st =>
   rw [h] at a b c
   show some (sI p w st,openSeen q loose (importedModules p.main.body) Xt g0 st.abs,Yf st.abs)=_
   have a':sI p w st=true:=Option.some.inj a
   have b':openSeen q loose (importedModules p.main.body) Xt g0 st.abs=openGood q loose:=Option.some.inj b
   have c':Yf st.abs=Ya w:=Option.some.inj c
   rw [a',b',c']) (by rw [Nat.ble_eq];exact Nat.le_refl _)
def dA (s:Stmt):Arguments:=match s with
 | .FunctionDef _ a _ _ _ _ _ _ _ _=>a
 |_=>{ posonlyargs:=[],args:=[],vararg:=none,kwonlyargs:=[],kw_defaults:=[],kwarg:=none,defaults:=[] }
def dB (s:Stmt):List Stmt:=match s with
 | .FunctionDef _ _ b _ _ _ _ _ _ _=>b
 |_=>[]
def dS (s:Stmt):Scope:=match s with
 | .FunctionDef _ _ _ _ _ _ sc _ _ _=>sc
 |_=>{ kind:=.function,names:=[],isGenerator:=false,isCoroutine:=false }
def dM (s:Stmt)(j:Nat):Stmt:=match s with
 | .ClassDef _ _ _ b _ _ _ _ _ _ _=>b.getD j (.Pass ⟨0,0,0,0⟩)
 |_=>.Pass ⟨0,0,0,0⟩
def dE (P:Params)(x:Str)(n:Nat)(v:Value):DictEntry:=.mk (PyData.keyHash P x) (.str x n) v
def o0:Obj:=Obj.mk (.type "tuple") none (.seq #[] 0) #[]
def oT (x:Array Value):Obj:=Obj.mk (.type "tuple") none (.seq x 0) #[]
def oC (x:Array Value):Obj:=Obj.mk (.type "code") none (.fields x) #[]
def oD (n:Str)(a l k r x:Nat)(y z:Value)(v u:Nat):Obj:=oC #[.str n a,.str n (a+1),.str "/claim/cut.py" (a+2),.int l 0,.int k 0,.int 0 0,.int 0 0,.int 3 0,.ref r,.bool true,.int 181 0,.ref x,.none,y,z,.ref v,.int u 0,.int l 0,.str "/claim/cut.py" (u+1)]
def oF (n:Str)(s:Stmt)(d m c:Value):Obj:=Obj.mk (.type "function") none (.func (FuncData.mk n n (dA s) (.stmts (dB s)) (dS s) 3 [] d .none .none m none c .none 0)) #[]
end L2
namespace gP
open PySem PySem.W
abbrev pr:Program:=PySem.Challenge.rw_lotmeal_k50_lies_refused.row.prog
def tp (i:Nat):Stmt:=pr.main.body.getD i (.Pass ⟨0,0,0,0⟩)
noncomputable def hK:Params->Frag:=fun P =>
 (nat_lit 2,boot_o_2 P) ::
 (nat_lit 3,(Obj.mk (.type "dict") none (.dict #[(L2.dE P "__name__" 165 (.str "law_lotmeal_k50_lies_refused" 735)),(L2.dE P "__doc__" 166 .none),(L2.dE P "__package__" 167 .none),(L2.dE P "__loader__" 168 (.builtin "__main__.__loader__#opaque")),(L2.dE P "__spec__" 169 .none),(L2.dE P "__annotations__" 170 (.ref 6)),(L2.dE P "__builtins__" 171 (.ref 4)),(L2.dE P "__file__" 173 (.str "/claim/cut.py" 172)),(L2.dE P "__cached__" 174 .none),(L2.dE P "LotError" 206 (.ref 24)),(L2.dE P "NoNumber" 222 (.ref 37)),(L2.dE P "NoText" 238 (.ref 49)),(L2.dE P "TooGreat" 254 (.ref 61)),(L2.dE P "NoAsker" 270 (.ref 73)),(L2.dE P "NoThing" 295 (.ref 92)),(L2.dE P "Twice" 320 (.ref 111)),(L2.dE P "NoShares" 336 (.ref 123)),(L2.dE P "NoTurns" 352 (.ref 135)),(L2.dE P "NoTicket" 377 (.ref 154)),(L2.dE P "NoName" 393 (.ref 166)),(L2.dE P "Double" 409 (.ref 178)),(L2.dE P "NoRow" 425 (.ref 190)),(L2.dE P "NoTable" 441 (.ref 202)),(L2.dE P "is_whole" 450 (.ref 211)),(L2.dE P "common_part" 459 (.ref 218)),(L2.dE P "fraction" 469 (.ref 226)),(L2.dE P "plus" 477 (.ref 233)),(L2.dE P "minus" 485 (.ref 240)),(L2.dE P "times" 493 (.ref 247)),(L2.dE P "over" 501 (.ref 254)),(L2.dE P "under" 509 (.ref 261)),(L2.dE P "sum_of" 518 (.ref 268)),(L2.dE P "least_of" 527 (.ref 275)),(L2.dE P "MOST" 531 (.int 6 530)),(L2.dE P "MOST_COUNT" 533 (.int 9 532)),(L2.dE P "check_orders" 539 (.ref 280)),(L2.dE P "table_of" 545 (.ref 285)),(L2.dE P "full_order" 551 (.ref 290)),(L2.dE P "first_left" 557 (.ref 295)),(L2.dE P "next_length" 565 (.ref 300)),(L2.dE P "left_behind" 571 (.ref 305)),(L2.dE P "ended_things" 577 (.ref 310)),(L2.dE P "meal_steps" 583 (.ref 315)),(L2.dE P "eaten_by" 589 (.ref 320)),(L2.dE P "meal" 595 (.ref 325)),(L2.dE P "sums" 609 (.ref 332)),(L2.dE P "as_good" 615 (.ref 337)),(L2.dE P "weight_of" 623 (.ref 342)),(L2.dE P "shares_of" 629 (.ref 347)),(L2.dE P "MOST_TURNS" 633 (.int 5 632)),(L2.dE P "deal_by" 639 (.ref 352)),(L2.dE P "longer" 645 (.ref 357)),(L2.dE P "all_turns" 654 (.ref 364)),(L2.dE P "turn_mix" 660 (.ref 369)),(L2.dE P "turn_shares" 667 (.ref 376)),(L2.dE P "MOST_THINGS" 671 (.int 4 670)),(L2.dE P "check_asker" 679 (.ref 383)),(L2.dE P "told_otherwise" 689 (.ref 390)),(L2.dE P "all_orders" 699 (.ref 397)),(L2.dE P "row_at" 709 (.ref 404)),(L2.dE P "word_for" 719 (.ref 411)),(L2.dE P "lies" 734 (.ref 419)),(L2.dE P "_law_cell_at" 744 (.ref 426)),(L2.dE P "_law_order" 757 (.ref 433)),(L2.dE P "_law_table" 763 (.ref 438)),(L2.dE P "_law_classes" 769 (.ref 443)),(L2.dE P "_law_refusal" 780 (.ref 450)),(L2.dE P "_law_cut" 786 (.ref 455)),(L2.dE P "law" 792 (.ref 460))] 69) #[])) ::
 (nat_lit 15,(L2.oT #[(.type "ValueError")])) ::
 (nat_lit 22,L2.o0) ::
 (nat_lit 23,(Obj.mk (.type "dict") none (.dict #[(L2.dE P "__module__" 196 (.str "lotmeal.errors" 187)),(L2.dE P "__firstlineno__" 200 (.int 2 199)),(L2.dE P "__static_attributes__" 201 (.ref 22)),(L2.dE P "__weakref__" 203 (.ref 25)),(L2.dE P "__doc__" 204 .none)] 3) #[])) ::
 (nat_lit 24,(Obj.mk (.type "type") none (.cls (ClassData.mk "LotError" [(.type "ValueError")] [(.ref 24),(.type "ValueError"),(.type "Exception"),(.type "BaseException"),(.type "object")] 23 "LotError" true [] [(.ref 37),(.ref 49),(.ref 61),(.ref 73),(.ref 92),(.ref 111),(.ref 123),(.ref 135),(.ref 154),(.ref 166),(.ref 178),(.ref 190),(.ref 202)] false none false)) #[(some (.ref 15)),none,(some (.str "LotError" 189)),(some (.str "LotError" 197)),(some (.builtin "ValueError.__new__")),(some (.bool true))])) ::
 (nat_lit 25,(Obj.mk (.type "getset_descriptor") none (.fields #[(.str "__weakref__" 202),(.ref 24),(.builtin "ExceptionGroup.__weakref__"),.none]) #[])) ::
 (nat_lit 28,(L2.oT #[(.ref 24)])) ::
 (nat_lit 35,L2.o0) ::
 (nat_lit 36,(Obj.mk (.type "dict") none (.dict #[(L2.dE P "__module__" 214 (.str "lotmeal.errors" 187)),(L2.dE P "__firstlineno__" 218 (.int 4 217)),(L2.dE P "__static_attributes__" 219 (.ref 35)),(L2.dE P "__doc__" 220 .none)] 2) #[])) ::
 (nat_lit 37,(Obj.mk (.type "type") none (.cls (ClassData.mk "NoNumber" [(.ref 24)] [(.ref 37),(.ref 24),(.type "ValueError"),(.type "Exception"),(.type "BaseException"),(.type "object")] 36 "NoNumber" true [] [] false none false)) #[(some (.ref 28)),none,(some (.str "NoNumber" 207)),(some (.str "NoNumber" 215)),(some (.builtin "ValueError.__new__")),(some (.bool true))])) ::
 (nat_lit 40,(L2.oT #[(.ref 24)])) ::
 (nat_lit 47,L2.o0) ::
 (nat_lit 48,(Obj.mk (.type "dict") none (.dict #[(L2.dE P "__module__" 230 (.str "lotmeal.errors" 187)),(L2.dE P "__firstlineno__" 234 (.int 6 233)),(L2.dE P "__static_attributes__" 235 (.ref 47)),(L2.dE P "__doc__" 236 .none)] 2) #[])) ::
 (nat_lit 49,(Obj.mk (.type "type") none (.cls (ClassData.mk "NoText" [(.ref 24)] [(.ref 49),(.ref 24),(.type "ValueError"),(.type "Exception"),(.type "BaseException"),(.type "object")] 48 "NoText" true [] [] false none false)) #[(some (.ref 40)),none,(some (.str "NoText" 223)),(some (.str "NoText" 231)),(some (.builtin "ValueError.__new__")),(some (.bool true))])) ::
 (nat_lit 52,(L2.oT #[(.ref 24)])) ::
 (nat_lit 59,L2.o0) ::
 (nat_lit 60,(Obj.mk (.type "dict") none (.dict #[(L2.dE P "__module__" 246 (.str "lotmeal.errors" 187)),(L2.dE P "__firstlineno__" 250 (.int 8 249)),(L2.dE P "__static_attributes__" 251 (.ref 59)),(L2.dE P "__doc__" 252 .none)] 2) #[])) ::
 (nat_lit 61,(Obj.mk (.type "type") none (.cls (ClassData.mk "TooGreat" [(.ref 24)] [(.ref 61),(.ref 24),(.type "ValueError"),(.type "Exception"),(.type "BaseException"),(.type "object")] 60 "TooGreat" true [] [] false none false)) #[(some (.ref 52)),none,(some (.str "TooGreat" 239)),(some (.str "TooGreat" 247)),(some (.builtin "ValueError.__new__")),(some (.bool true))])) ::
 (nat_lit 64,(L2.oT #[(.ref 24)])) ::
 (nat_lit 71,L2.o0) ::
 (nat_lit 72,(Obj.mk (.type "dict") none (.dict #[(L2.dE P "__module__" 262 (.str "lotmeal.errors" 187)),(L2.dE P "__firstlineno__" 266 (.int 10 265)),(L2.dE P "__static_attributes__" 267 (.ref 71)),(L2.dE P "__doc__" 268 .none)] 2) #[])) ::
 (nat_lit 73,(Obj.mk (.type "type") none (.cls (ClassData.mk "NoAsker" [(.ref 24)] [(.ref 73),(.ref 24),(.type "ValueError"),(.type "Exception"),(.type "BaseException"),(.type "object")] 72 "NoAsker" true [] [] false none false)) #[(some (.ref 64)),none,(some (.str "NoAsker" 255)),(some (.str "NoAsker" 263)),(some (.builtin "ValueError.__new__")),(some (.bool true))])) ::
 (nat_lit 76,(L2.oT #[(.ref 24)])) ::
 (nat_lit 83,L2.o0) ::
 (nat_lit 85,(L2.oT #[(.str "self" 286),(.str "asker" 287)])) ::
 (nat_lit 86,L2.o0) ::
 (nat_lit 88,(L2.oC #[(.str "__init__" 283),(.str "NoThing.__init__" 284),(.str "/claim/cut.py" 285),(.int 14 0),(.int 2 0),(.int 0 0),(.int 0 0),(.int 3 0),(.ref 83),(.bool true),(.int 181 0),(.ref 84),.none,(.ref 85),(.ref 86),(.ref 87),(.int 288 0),(.int 14 0),(.str "/claim/cut.py" 289)])) ::
 (nat_lit 89,(Obj.mk (.type "function") none (.func (FuncData.mk "__init__" "NoThing.__init__" (L2.dA (L2.dM (tp 6) 0)) (.stmts (L2.dB (L2.dM (tp 6) 0))) (L2.dS (L2.dM (tp 6) 0)) 3 [] .none .none .none (.str "lotmeal.errors" 187) none (.ref 88) .none 0)) #[])) ::
 (nat_lit 90,(L2.oT #[(.str "asker" 291)])) ::
 (nat_lit 91,(Obj.mk (.type "dict") none (.dict #[(L2.dE P "__module__" 278 (.str "lotmeal.errors" 187)),(L2.dE P "__firstlineno__" 282 (.int 12 281)),(L2.dE P "__init__" 290 (.ref 89)),(L2.dE P "__static_attributes__" 292 (.ref 90)),(L2.dE P "__doc__" 293 .none)] 2) #[])) ::
 (nat_lit 92,(Obj.mk (.type "type") none (.cls (ClassData.mk "NoThing" [(.ref 24)] [(.ref 92),(.ref 24),(.type "ValueError"),(.type "Exception"),(.type "BaseException"),(.type "object")] 91 "NoThing" true [] [] false none false)) #[(some (.ref 76)),none,(some (.str "NoThing" 271)),(some (.str "NoThing" 279)),(some (.builtin "ValueError.__new__")),(some (.bool true))])) ::
 (nat_lit 95,(L2.oT #[(.ref 24)])) ::
 (nat_lit 102,L2.o0) ::
 (nat_lit 104,(L2.oT #[(.str "self" 311),(.str "asker" 312)])) ::
 (nat_lit 105,L2.o0) ::
 (nat_lit 107,(L2.oC #[(.str "__init__" 308),(.str "Twice.__init__" 309),(.str "/claim/cut.py" 310),(.int 19 0),(.int 2 0),(.int 0 0),(.int 0 0),(.int 3 0),(.ref 102),(.bool true),(.int 181 0),(.ref 103),.none,(.ref 104),(.ref 105),(.ref 106),(.int 313 0),(.int 19 0),(.str "/claim/cut.py" 314)])) ::
 (nat_lit 108,(Obj.mk (.type "function") none (.func (FuncData.mk "__init__" "Twice.__init__" (L2.dA (L2.dM (tp 7) 0)) (.stmts (L2.dB (L2.dM (tp 7) 0))) (L2.dS (L2.dM (tp 7) 0)) 3 [] .none .none .none (.str "lotmeal.errors" 187) none (.ref 107) .none 0)) #[])) ::
 (nat_lit 109,(L2.oT #[(.str "asker" 316)])) ::
 (nat_lit 110,(Obj.mk (.type "dict") none (.dict #[(L2.dE P "__module__" 303 (.str "lotmeal.errors" 187)),(L2.dE P "__firstlineno__" 307 (.int 17 306)),(L2.dE P "__init__" 315 (.ref 108)),(L2.dE P "__static_attributes__" 317 (.ref 109)),(L2.dE P "__doc__" 318 .none)] 2) #[])) ::
 (nat_lit 111,(Obj.mk (.type "type") none (.cls (ClassData.mk "Twice" [(.ref 24)] [(.ref 111),(.ref 24),(.type "ValueError"),(.type "Exception"),(.type "BaseException"),(.type "object")] 110 "Twice" true [] [] false none false)) #[(some (.ref 95)),none,(some (.str "Twice" 296)),(some (.str "Twice" 304)),(some (.builtin "ValueError.__new__")),(some (.bool true))])) ::
 (nat_lit 114,(L2.oT #[(.ref 24)])) ::
 (nat_lit 121,L2.o0) ::
 (nat_lit 122,(Obj.mk (.type "dict") none (.dict #[(L2.dE P "__module__" 328 (.str "lotmeal.errors" 187)),(L2.dE P "__firstlineno__" 332 (.int 22 331)),(L2.dE P "__static_attributes__" 333 (.ref 121)),(L2.dE P "__doc__" 334 .none)] 2) #[])) ::
 (nat_lit 123,(Obj.mk (.type "type") none (.cls (ClassData.mk "NoShares" [(.ref 24)] [(.ref 123),(.ref 24),(.type "ValueError"),(.type "Exception"),(.type "BaseException"),(.type "object")] 122 "NoShares" true [] [] false none false)) #[(some (.ref 114)),none,(some (.str "NoShares" 321)),(some (.str "NoShares" 329)),(some (.builtin "ValueError.__new__")),(some (.bool true))])) ::
 (nat_lit 126,(L2.oT #[(.ref 24)])) ::
 (nat_lit 133,L2.o0) ::
 (nat_lit 134,(Obj.mk (.type "dict") none (.dict #[(L2.dE P "__module__" 344 (.str "lotmeal.errors" 187)),(L2.dE P "__firstlineno__" 348 (.int 24 347)),(L2.dE P "__static_attributes__" 349 (.ref 133)),(L2.dE P "__doc__" 350 .none)] 2) #[])) ::
 (nat_lit 135,(Obj.mk (.type "type") none (.cls (ClassData.mk "NoTurns" [(.ref 24)] [(.ref 135),(.ref 24),(.type "ValueError"),(.type "Exception"),(.type "BaseException"),(.type "object")] 134 "NoTurns" true [] [] false none false)) #[(some (.ref 126)),none,(some (.str "NoTurns" 337)),(some (.str "NoTurns" 345)),(some (.builtin "ValueError.__new__")),(some (.bool true))])) ::
 (nat_lit 138,(L2.oT #[(.ref 24)])) ::
 (nat_lit 145,L2.o0) ::
 (nat_lit 147,(L2.oT #[(.str "self" 368),(.str "many" 369)])) ::
 (nat_lit 148,L2.o0) ::
 (nat_lit 150,(L2.oC #[(.str "__init__" 365),(.str "NoTicket.__init__" 366),(.str "/claim/cut.py" 367),(.int 28 0),(.int 2 0),(.int 0 0),(.int 0 0),(.int 3 0),(.ref 145),(.bool true),(.int 181 0),(.ref 146),.none,(.ref 147),(.ref 148),(.ref 149),(.int 370 0),(.int 28 0),(.str "/claim/cut.py" 371)])) ::
 (nat_lit 151,(Obj.mk (.type "function") none (.func (FuncData.mk "__init__" "NoTicket.__init__" (L2.dA (L2.dM (tp 10) 0)) (.stmts (L2.dB (L2.dM (tp 10) 0))) (L2.dS (L2.dM (tp 10) 0)) 3 [] .none .none .none (.str "lotmeal.errors" 187) none (.ref 150) .none 0)) #[])) ::
 (nat_lit 152,(L2.oT #[(.str "many" 373)])) ::
 (nat_lit 153,(Obj.mk (.type "dict") none (.dict #[(L2.dE P "__module__" 360 (.str "lotmeal.errors" 187)),(L2.dE P "__firstlineno__" 364 (.int 26 363)),(L2.dE P "__init__" 372 (.ref 151)),(L2.dE P "__static_attributes__" 374 (.ref 152)),(L2.dE P "__doc__" 375 .none)] 2) #[])) ::
 (nat_lit 154,(Obj.mk (.type "type") none (.cls (ClassData.mk "NoTicket" [(.ref 24)] [(.ref 154),(.ref 24),(.type "ValueError"),(.type "Exception"),(.type "BaseException"),(.type "object")] 153 "NoTicket" true [] [] false none false)) #[(some (.ref 138)),none,(some (.str "NoTicket" 353)),(some (.str "NoTicket" 361)),(some (.builtin "ValueError.__new__")),(some (.bool true))])) ::
 (nat_lit 157,(L2.oT #[(.ref 24)])) ::
 (nat_lit 164,L2.o0) ::
 (nat_lit 165,(Obj.mk (.type "dict") none (.dict #[(L2.dE P "__module__" 385 (.str "lotmeal.errors" 187)),(L2.dE P "__firstlineno__" 389 (.int 31 388)),(L2.dE P "__static_attributes__" 390 (.ref 164)),(L2.dE P "__doc__" 391 .none)] 2) #[])) ::
 (nat_lit 166,(Obj.mk (.type "type") none (.cls (ClassData.mk "NoName" [(.ref 24)] [(.ref 166),(.ref 24),(.type "ValueError"),(.type "Exception"),(.type "BaseException"),(.type "object")] 165 "NoName" true [] [] false none false)) #[(some (.ref 157)),none,(some (.str "NoName" 378)),(some (.str "NoName" 386)),(some (.builtin "ValueError.__new__")),(some (.bool true))])) ::
 (nat_lit 169,(L2.oT #[(.ref 24)])) ::
 (nat_lit 176,L2.o0) ::
 (nat_lit 177,(Obj.mk (.type "dict") none (.dict #[(L2.dE P "__module__" 401 (.str "lotmeal.errors" 187)),(L2.dE P "__firstlineno__" 405 (.int 33 404)),(L2.dE P "__static_attributes__" 406 (.ref 176)),(L2.dE P "__doc__" 407 .none)] 2) #[])) ::
 (nat_lit 178,(Obj.mk (.type "type") none (.cls (ClassData.mk "Double" [(.ref 24)] [(.ref 178),(.ref 24),(.type "ValueError"),(.type "Exception"),(.type "BaseException"),(.type "object")] 177 "Double" true [] [] false none false)) #[(some (.ref 169)),none,(some (.str "Double" 394)),(some (.str "Double" 402)),(some (.builtin "ValueError.__new__")),(some (.bool true))])) ::
 (nat_lit 181,(L2.oT #[(.ref 24)])) ::
 (nat_lit 188,L2.o0) ::
 (nat_lit 189,(Obj.mk (.type "dict") none (.dict #[(L2.dE P "__module__" 417 (.str "lotmeal.errors" 187)),(L2.dE P "__firstlineno__" 421 (.int 35 420)),(L2.dE P "__static_attributes__" 422 (.ref 188)),(L2.dE P "__doc__" 423 .none)] 2) #[])) ::
 (nat_lit 190,(Obj.mk (.type "type") none (.cls (ClassData.mk "NoRow" [(.ref 24)] [(.ref 190),(.ref 24),(.type "ValueError"),(.type "Exception"),(.type "BaseException"),(.type "object")] 189 "NoRow" true [] [] false none false)) #[(some (.ref 181)),none,(some (.str "NoRow" 410)),(some (.str "NoRow" 418)),(some (.builtin "ValueError.__new__")),(some (.bool true))])) ::
 (nat_lit 193,(L2.oT #[(.ref 24)])) ::
 (nat_lit 200,L2.o0) ::
 (nat_lit 201,(Obj.mk (.type "dict") none (.dict #[(L2.dE P "__module__" 433 (.str "lotmeal.errors" 187)),(L2.dE P "__firstlineno__" 437 (.int 37 436)),(L2.dE P "__static_attributes__" 438 (.ref 200)),(L2.dE P "__doc__" 439 .none)] 2) #[])) ::
 (nat_lit 202,(Obj.mk (.type "type") none (.cls (ClassData.mk "NoTable" [(.ref 24)] [(.ref 202),(.ref 24),(.type "ValueError"),(.type "Exception"),(.type "BaseException"),(.type "object")] 201 "NoTable" true [] [] false none false)) #[(some (.ref 193)),none,(some (.str "NoTable" 426)),(some (.str "NoTable" 434)),(some (.builtin "ValueError.__new__")),(some (.bool true))])) ::
 (nat_lit 205,L2.o0) ::
 (nat_lit 207,(L2.oT #[(.str "number" 447)])) ::
 (nat_lit 208,L2.o0) ::
 (nat_lit 210,(L2.oD "is_whole" 444 40 1 205 206 (.ref 207) (.ref 208) 209 448)) ::
 (nat_lit 211,(L2.oF "is_whole" (tp 16) .none (.str "lotmeal.fractions" 442) (.ref 210))) ::
 (nat_lit 212,L2.o0) ::
 (nat_lit 214,(L2.oT #[(.str "one" 454),(.str "other" 455),(.str "rest" 456)])) ::
 (nat_lit 215,L2.o0) ::
 (nat_lit 217,(L2.oD "common_part" 451 42 2 212 213 (.ref 214) (.ref 215) 216 457)) ::
 (nat_lit 218,(L2.oF "common_part" (tp 17) .none (.str "lotmeal.fractions" 442) (.ref 217))) ::
 (nat_lit 219,(L2.oT #[(.int 1 460)])) ::
 (nat_lit 220,L2.o0) ::
 (nat_lit 222,(L2.oT #[(.str "top" 464),(.str "bottom" 465),(.str "part" 466)])) ::
 (nat_lit 223,L2.o0) ::
 (nat_lit 225,(L2.oD "fraction" 461 48 2 220 221 (.ref 222) (.ref 223) 224 467)) ::
 (nat_lit 226,(L2.oF "fraction" (tp 18) (.ref 219) (.str "lotmeal.fractions" 442) (.ref 225))) ::
 (nat_lit 227,L2.o0) ::
 (nat_lit 229,(L2.oT #[(.str "one" 473),(.str "other" 474)])) ::
 (nat_lit 230,L2.o0) ::
 (nat_lit 232,(L2.oD "plus" 470 57 2 227 228 (.ref 229) (.ref 230) 231 475)) ::
 (nat_lit 233,(L2.oF "plus" (tp 19) .none (.str "lotmeal.fractions" 442) (.ref 232))) ::
 (nat_lit 234,L2.o0) ::
 (nat_lit 236,(L2.oT #[(.str "one" 481),(.str "other" 482)])) ::
 (nat_lit 237,L2.o0) ::
 (nat_lit 239,(L2.oD "minus" 478 59 2 234 235 (.ref 236) (.ref 237) 238 483)) ::
 (nat_lit 240,(L2.oF "minus" (tp 20) .none (.str "lotmeal.fractions" 442) (.ref 239))) ::
 (nat_lit 241,L2.o0) ::
 (nat_lit 243,(L2.oT #[(.str "one" 489),(.str "other" 490)])) ::
 (nat_lit 244,L2.o0) ::
 (nat_lit 246,(L2.oD "times" 486 61 2 241 242 (.ref 243) (.ref 244) 245 491)) ::
 (nat_lit 247,(L2.oF "times" (tp 21) .none (.str "lotmeal.fractions" 442) (.ref 246))) ::
 (nat_lit 248,L2.o0) ::
 (nat_lit 250,(L2.oT #[(.str "one" 497),(.str "other" 498)])) ::
 (nat_lit 251,L2.o0) ::
 (nat_lit 253,(L2.oD "over" 494 63 2 248 249 (.ref 250) (.ref 251) 252 499)) ::
 (nat_lit 254,(L2.oF "over" (tp 22) .none (.str "lotmeal.fractions" 442) (.ref 253))) ::
 (nat_lit 255,L2.o0) ::
 (nat_lit 257,(L2.oT #[(.str "one" 505),(.str "other" 506)])) ::
 (nat_lit 258,L2.o0) ::
 (nat_lit 260,(L2.oD "under" 502 67 2 255 256 (.ref 257) (.ref 258) 259 507)) ::
 (nat_lit 261,(L2.oF "under" (tp 23) .none (.str "lotmeal.fractions" 442) (.ref 260))) ::
 (nat_lit 262,L2.o0) ::
 (nat_lit 264,(L2.oT #[(.str "some" 513),(.str "total" 514),(.str "one" 515)])) ::
 (nat_lit 265,L2.o0) ::
 (nat_lit 267,(L2.oD "sum_of" 510 69 1 262 263 (.ref 264) (.ref 265) 266 516)) ::
 (nat_lit 268,(L2.oF "sum_of" (tp 24) .none (.str "lotmeal.fractions" 442) (.ref 267))) ::
 (nat_lit 269,L2.o0) ::
 (nat_lit 271,(L2.oT #[(.str "some" 522),(.str "least" 523),(.str "one" 524)])) ::
 (nat_lit 272,L2.o0) ::
 (nat_lit 274,(L2.oD "least_of" 519 74 1 269 270 (.ref 271) (.ref 272) 273 525)) ::
 (nat_lit 275,(L2.oF "least_of" (tp 25) .none (.str "lotmeal.fractions" 442) (.ref 274))) ::
 (nat_lit 276,L2.o0) ::
 (nat_lit 279,(L2.oD "check_orders" 534 83 2 276 277 .none .none 278 537)) ::
 (nat_lit 280,(L2.oF "check_orders" (tp 29) .none (.str "lotmeal.tables" 528) (.ref 279))) ::
 (nat_lit 281,L2.o0) ::
 (nat_lit 284,(L2.oD "table_of" 540 90 2 281 282 .none .none 283 543)) ::
 (nat_lit 285,(L2.oF "table_of" (tp 30) .none (.str "lotmeal.tables" 528) (.ref 284))) ::
 (nat_lit 286,L2.o0) ::
 (nat_lit 289,(L2.oD "full_order" 546 99 2 286 287 .none .none 288 549)) ::
 (nat_lit 290,(L2.oF "full_order" (tp 31) .none (.str "lotmeal.tables" 528) (.ref 289))) ::
 (nat_lit 291,L2.o0) ::
 (nat_lit 294,(L2.oD "first_left" 552 103 2 291 292 .none .none 293 555)) ::
 (nat_lit 295,(L2.oF "first_left" (tp 32) .none (.str "lotmeal.tables" 528) (.ref 294))) ::
 (nat_lit 296,L2.o0) ::
 (nat_lit 299,(L2.oD "next_length" 560 106 3 296 297 .none .none 298 563)) ::
 (nat_lit 300,(L2.oF "next_length" (tp 34) .none (.str "lotmeal.meal" 558) (.ref 299))) ::
 (nat_lit 301,L2.o0) ::
 (nat_lit 304,(L2.oD "left_behind" 566 109 3 301 302 .none .none 303 569)) ::
 (nat_lit 305,(L2.oF "left_behind" (tp 35) .none (.str "lotmeal.meal" 558) (.ref 304))) ::
 (nat_lit 306,L2.o0) ::
 (nat_lit 309,(L2.oD "ended_things" 572 111 1 306 307 .none .none 308 575)) ::
 (nat_lit 310,(L2.oF "ended_things" (tp 36) .none (.str "lotmeal.meal" 558) (.ref 309))) ::
 (nat_lit 311,L2.o0) ::
 (nat_lit 314,(L2.oD "meal_steps" 578 113 1 311 312 .none .none 313 581)) ::
 (nat_lit 315,(L2.oF "meal_steps" (tp 37) .none (.str "lotmeal.meal" 558) (.ref 314))) ::
 (nat_lit 316,L2.o0) ::
 (nat_lit 319,(L2.oD "eaten_by" 584 126 3 316 317 .none .none 318 587)) ::
 (nat_lit 320,(L2.oF "eaten_by" (tp 38) .none (.str "lotmeal.meal" 558) (.ref 319))) ::
 (nat_lit 321,L2.o0) ::
 (nat_lit 324,(L2.oD "meal" 590 128 1 321 322 .none .none 323 593)) ::
 (nat_lit 325,(L2.oF "meal" (tp 39) .none (.str "lotmeal.meal" 558) (.ref 324))) ::
 (nat_lit 326,L2.o0) ::
 (nat_lit 328,(L2.oT #[(.str "table" 601),(.str "asker" 602),(.str "row" 603),(.str "told" 604),(.str "total" 605),(.str "one" 606)])) ::
 (nat_lit 329,L2.o0) ::
 (nat_lit 331,(L2.oD "sums" 598 134 3 326 327 (.ref 328) (.ref 329) 330 607)) ::
 (nat_lit 332,(L2.oF "sums" (tp 41) .none (.str "lotmeal.sums" 596) (.ref 331))) ::
 (nat_lit 333,L2.o0) ::
 (nat_lit 336,(L2.oD "as_good" 610 141 4 333 334 .none .none 335 613)) ::
 (nat_lit 337,(L2.oF "as_good" (tp 42) .none (.str "lotmeal.sums" 596) (.ref 336))) ::
 (nat_lit 338,L2.o0) ::
 (nat_lit 341,(L2.oD "weight_of" 618 146 3 338 339 .none .none 340 621)) ::
 (nat_lit 342,(L2.oF "weight_of" (tp 44) .none (.str "lotmeal.mixes" 616) (.ref 341))) ::
 (nat_lit 343,L2.o0) ::
 (nat_lit 346,(L2.oD "shares_of" 624 148 2 343 344 .none .none 345 627)) ::
 (nat_lit 347,(L2.oF "shares_of" (tp 45) .none (.str "lotmeal.mixes" 616) (.ref 346))) ::
 (nat_lit 348,L2.o0) ::
 (nat_lit 351,(L2.oD "deal_by" 634 153 2 348 349 .none .none 350 637)) ::
 (nat_lit 352,(L2.oF "deal_by" (tp 48) .none (.str "lotmeal.turns" 630) (.ref 351))) ::
 (nat_lit 353,L2.o0) ::
 (nat_lit 356,(L2.oD "longer" 640 162 2 353 354 .none .none 355 643)) ::
 (nat_lit 357,(L2.oF "longer" (tp 49) .none (.str "lotmeal.turns" 630) (.ref 356))) ::
 (nat_lit 358,L2.o0) ::
 (nat_lit 360,(L2.oT #[(.str "many" 649),(.str "told" 650),(.str "length" 651)])) ::
 (nat_lit 361,L2.o0) ::
 (nat_lit 363,(L2.oD "all_turns" 646 167 1 358 359 (.ref 360) (.ref 361) 362 652)) ::
 (nat_lit 364,(L2.oF "all_turns" (tp 50) .none (.str "lotmeal.turns" 630) (.ref 363))) ::
 (nat_lit 365,L2.o0) ::
 (nat_lit 368,(L2.oD "turn_mix" 655 174 1 365 366 .none .none 367 658)) ::
 (nat_lit 369,(L2.oF "turn_mix" (tp 51) .none (.str "lotmeal.turns" 630) (.ref 368))) ::
 (nat_lit 370,L2.o0) ::
 (nat_lit 372,(L2.oT #[(.str "table" 664)])) ::
 (nat_lit 373,L2.o0) ::
 (nat_lit 375,(L2.oD "turn_shares" 661 181 1 370 371 (.ref 372) (.ref 373) 374 665)) ::
 (nat_lit 376,(L2.oF "turn_shares" (tp 52) .none (.str "lotmeal.turns" 630) (.ref 375))) ::
 (nat_lit 377,L2.o0) ::
 (nat_lit 379,(L2.oT #[(.str "table" 675),(.str "asker" 676)])) ::
 (nat_lit 380,L2.o0) ::
 (nat_lit 382,(L2.oD "check_asker" 672 185 2 377 378 (.ref 379) (.ref 380) 381 677)) ::
 (nat_lit 383,(L2.oF "check_asker" (tp 55) .none (.str "lotmeal.lies" 668) (.ref 382))) ::
 (nat_lit 384,L2.o0) ::
 (nat_lit 386,(L2.oT #[(.str "table" 683),(.str "asker" 684),(.str "order" 685),(.str "orders" 686)])) ::
 (nat_lit 387,L2.o0) ::
 (nat_lit 389,(L2.oD "told_otherwise" 680 188 3 384 385 (.ref 386) (.ref 387) 388 687)) ::
 (nat_lit 390,(L2.oF "told_otherwise" (tp 56) .none (.str "lotmeal.lies" 668) (.ref 389))) ::
 (nat_lit 391,L2.o0) ::
 (nat_lit 393,(L2.oT #[(.str "many" 693),(.str "told" 694),(.str "longest" 695),(.str "length" 696)])) ::
 (nat_lit 394,L2.o0) ::
 (nat_lit 396,(L2.oD "all_orders" 690 193 1 391 392 (.ref 393) (.ref 394) 395 697)) ::
 (nat_lit 397,(L2.oF "all_orders" (tp 57) .none (.str "lotmeal.lies" 668) (.ref 396))) ::
 (nat_lit 398,L2.o0) ::
 (nat_lit 400,(L2.oT #[(.str "table" 703),(.str "asker" 704),(.str "way" 705),(.str "shares" 706)])) ::
 (nat_lit 401,L2.o0) ::
 (nat_lit 403,(L2.oD "row_at" 700 202 3 398 399 (.ref 400) (.ref 401) 402 707)) ::
 (nat_lit 404,(L2.oF "row_at" (tp 58) .none (.str "lotmeal.lies" 668) (.ref 403))) ::
 (nat_lit 405,L2.o0) ::
 (nat_lit 407,(L2.oT #[(.str "table" 713),(.str "asker" 714),(.str "first" 715),(.str "new" 716)])) ::
 (nat_lit 408,L2.o0) ::
 (nat_lit 410,(L2.oD "word_for" 710 205 4 405 406 (.ref 407) (.ref 408) 409 717)) ::
 (nat_lit 411,(L2.oF "word_for" (tp 59) .none (.str "lotmeal.lies" 668) (.ref 410))) ::
 (nat_lit 412,(L2.oT #[(.str "meal" 720)])) ::
 (nat_lit 413,L2.o0) ::
 (nat_lit 415,(L2.oT #[(.str "table" 724),(.str "asker" 725),(.str "way" 726),(.str "orders" 727),(.str "first" 728),(.str "told" 729),(.str "order" 730),(.str "new" 731)])) ::
 (nat_lit 416,L2.o0) ::
 (nat_lit 418,(L2.oD "lies" 721 213 3 413 414 (.ref 415) (.ref 416) 417 732)) ::
 (nat_lit 419,(L2.oF "lies" (tp 60) (.ref 412) (.str "lotmeal.lies" 668) (.ref 418))) ::
 (nat_lit 420,L2.o0) ::
 (nat_lit 422,(L2.oT #[(.str "_law_script" 740),(.str "_law_k" 741)])) ::
 (nat_lit 423,L2.o0) ::
 (nat_lit 425,(L2.oD "_law_cell_at" 737 223 2 420 421 (.ref 422) (.ref 423) 424 742)) ::
 (nat_lit 426,(L2.oF "_law_cell_at" (tp 62) .none (.str "law_lotmeal_k50_lies_refused" 735) (.ref 425))) ::
 (nat_lit 427,L2.o0) ::
 (nat_lit 429,(L2.oT #[(.str "_law_cell" 748),(.str "_law_many" 749),(.str "_law_size" 750),(.str "_law_left" 751),(.str "_law_order_here" 752),(.str "_law_k" 753),(.str "_law_at" 754)])) ::
 (nat_lit 430,L2.o0) ::
 (nat_lit 432,(L2.oD "_law_order" 745 227 2 427 428 (.ref 429) (.ref 430) 431 755)) ::
 (nat_lit 433,(L2.oF "_law_order" (tp 63) .none (.str "law_lotmeal_k50_lies_refused" 735) (.ref 432))) ::
 (nat_lit 434,L2.o0) ::
 (nat_lit 437,(L2.oD "_law_table" 758 237 4 434 435 .none .none 436 761)) ::
 (nat_lit 438,(L2.oF "_law_table" (tp 64) .none (.str "law_lotmeal_k50_lies_refused" 735) (.ref 437))) ::
 (nat_lit 439,L2.o0) ::
 (nat_lit 442,(L2.oD "_law_classes" 764 248 1 439 440 .none .none 441 767)) ::
 (nat_lit 443,(L2.oF "_law_classes" (tp 65) .none (.str "law_lotmeal_k50_lies_refused" 735) (.ref 442))) ::
 (nat_lit 444,L2.o0) ::
 (nat_lit 446,(L2.oT #[(.str "_law_table_here" 773),(.str "_law_asker" 774),(.str "_law_way" 775),(.str "_law_some" 776),(.str "_law_e" 777)])) ::
 (nat_lit 447,L2.o0) ::
 (nat_lit 449,(L2.oD "_law_refusal" 770 254 3 444 445 (.ref 446) (.ref 447) 448 778)) ::
 (nat_lit 450,(L2.oF "_law_refusal" (tp 66) .none (.str "law_lotmeal_k50_lies_refused" 735) (.ref 449))) ::
 (nat_lit 451,L2.o0) ::
 (nat_lit 454,(L2.oD "_law_cut" 781 264 3 451 452 .none .none 453 784)) ::
 (nat_lit 455,(L2.oF "_law_cut" (tp 67) .none (.str "law_lotmeal_k50_lies_refused" 735) (.ref 454))) ::
 (nat_lit 456,L2.o0) ::
 (nat_lit 459,(L2.oD "law" 787 267 1 456 457 .none .none 458 790)) ::
 (nat_lit 460,(L2.oF "law" (tp 68) .none (.str "law_lotmeal_k50_lies_refused" 735) (.ref 459)))::[]
def hA:List Addr:=[2,3,15,22,23,24,25,28,35,36,37,40,47,48,49,52,59,60,61,64,71,72,73,76,83,85,86,88,89,90,91,92,95,102,104,105,107,108,109,110,111,114,121,122,123,126,133,134,135,138,145,147,148,150,151,152,153,154,157,164,165,166,169,176,177,178,181,188,189,190,193,200,201,202,205,207,208,210,211,212,214,215,217,218,219,220,222,223,225,226,227,229,230,232,233,234,236,237,239,240,241,243,244,246,247,248,250,251,253,254,255,257,258,260,261,262,264,265,267,268,269,271,272,274,275,276,279,280,281,284,285,286,289,290,291,294,295,296,299,300,301,304,305,306,309,310,311,314,315,316,319,320,321,324,325,326,328,329,331,332,333,336,337,338,341,342,343,346,347,348,351,352,353,356,357,358,360,361,363,364,365,368,369,370,372,373,375,376,377,379,380,382,383,384,386,387,389,390,391,393,394,396,397,398,400,401,403,404,405,407,408,410,411,412,413,415,416,418,419,420,422,423,425,426,427,429,430,432,433,434,437,438,439,442,443,444,446,447,449,450,451,454,455,456,459,460]
theorem wk (P:Params):hA=(hK P).map (·.1):=by kernel_rfl
def hV:Program:={ pr with main:={ pr.main with body:=[1,2,3,4,5,6,7,8,9,10,11,12,13,14,16,17,19,20,21,22,23,24,25,27,28,29,30,31,32,34,35,36,37,38,39,41,42,44,45,47,48,49,50,51,52,54,55,56,57,58,59,62,63,64,65,66,67,68].map tp } }
def hX (s:Shared):Bool:=xlAt hV [] s&&recOk (RowW.records PySem.Challenge.rw_lotmeal_k50_lies_refused.row.toRowW) s
noncomputable abbrev hH:Hook:=kHook hK hA wk
theorem h1:opening pr=plainProg pr.main.scope.names:=by kernel_rfl
theorem h2 (s:Shared):fenceModules? pr s=some s:=by kernel_rfl
theorem h3 (w:World):(fun os=>(L2.lP pr w 8888 os).map fun st=>L2.sI pr w st)=fun _=>some true:=by kernel_rfl
theorem h4 (w:World):(fun os=>(L2.lP pr w 8888 os).map fun st=>openSeen hV ["fraction", "lies"] (importedModules pr.main.body) hX true st.abs)=fun _=>some (openGood hV ["fraction", "lies"]):=by kernel_rfl
theorem h5 (w:World):(fun os=>(L2.lP pr w 8888 os).map fun st=>hH.obs st.abs)=fun _=>some (hH.val w):=by kernel_rfl
theorem hL:LeftO pr hV ["fraction", "lies"] hX hH.obs hH.val 8888:=L2.T4 h1 (by decide) h2 h3 h4 h5
end gP
namespace L2
open PySem PySem.Spec PyProof.Rows
abbrev Key:=Sum Int Str
def p8:Key->Value->Bool
 | .inl k,v=>Value.isInt k v
 | .inr x,v=>Value.isStrOf x v
def ZN (w:World):Key->Int
 | .inl k=>hashInt k
 | .inr x=>hashStr w x
theorem kB:∀ {k:Key} {v:Value},p8 k v=true->(∃ i t,k=Sum.inl i/\v=Value.int i t)\/(∃ x t,k=Sum.inr x/\v=Value.str x t)
 | .inl i,v,h=>by
  obtain ⟨t,e⟩:=Value.isInt_shape (k:=i) (v:=v) h
  exact .inl ⟨i,t,rfl,e⟩
 | .inr x,v,h=>by
  obtain ⟨t,e⟩:=Value.isStrOf_shape (x:=x) (v:=v) h
  exact .inr ⟨x,t,rfl,e⟩
theorem T5 (i:Int)(t:Tok):p8 (.inl i) (.int i t)=true:=by simp [p8,Value.isInt]
theorem T6 (x:Str)(t:Tok):p8 (.inr x) (.str x t)=true:=by simp [p8,Value.isStrOf]
theorem XH (a b:Int):decide ((Sum.inl a:Key)=Sum.inl b)=(a==b):=by
 by_cases e:a=b
 ·subst e;simp
 ·have h:¬ (Sum.inl a:Key)=Sum.inl b:=fun q=>e (Sum.inl.inj q)
  rw [decide_eq_false h]
  exact (beq_eq_false_iff_ne.mpr e).symm
theorem XI (a b:Str):decide ((Sum.inr a:Key)=Sum.inr b)=decide (a=b):=by
 by_cases e:a=b
 ·subst e;simp
 ·have h:¬ (Sum.inr a:Key)=Sum.inr b:=fun q=>e (Sum.inr.inj q)
  rw [decide_eq_false h,decide_eq_false e]
theorem XJ (a:Int)(b:Str):decide ((Sum.inl a:Key)=Sum.inr b)=false:=decide_eq_false (fun q=>nomatch q)
theorem XM (a:Str)(b:Int):decide ((Sum.inr a:Key)=Sum.inl b)=false:=decide_eq_false (fun q=>nomatch q)
def gh (prog:Program)(w:World):PySem.KeyKind prog w Key where
 is:=p8
 hash:=ZN w
 inj:=fun v a b ha hb=>by
  rcases kB ha with ⟨i,t,rfl,rfl⟩ | ⟨x,t,rfl,rfl⟩
  ·rcases kB hb with ⟨j,u,rfl,e⟩ | ⟨y,u,rfl,e⟩
   ·injection e with e1 _;rw [e1]
   ·exact nomatch e
  ·rcases kB hb with ⟨j,u,rfl,e⟩ | ⟨y,u,rfl,e⟩
   ·exact nomatch e
   ·injection e with e1 _;rw [e1]
 byValue:=fun k v h=>by
  rcases kB h with ⟨i,t,rfl,rfl⟩ | ⟨x,t,rfl,rfl⟩<;>rfl
 pyHash:=fun hv h=>by
  rcases kB hv with ⟨i,t,rfl,rfl⟩ | ⟨x,t,rfl,rfl⟩
  ·exact wpAny_pyHash_int h
  ·exact wpAny_pyHash_str h
 eqBool:=fun hu hv h=>by
  rcases kB hu with ⟨i,t,rfl,rfl⟩ | ⟨x,t,rfl,rfl⟩
  ·rcases kB hv with ⟨j,u,rfl,rfl⟩ | ⟨y,u,rfl,rfl⟩
   ·rw [XH] at h;exact wpAny_eqBool_int h
   ·rw [XJ] at h;exact SeqAt.EqAt.int_str i t y u _ _ _ _ h
  ·rcases kB hv with ⟨j,u,rfl,rfl⟩ | ⟨y,u,rfl,rfl⟩
   ·rw [XM] at h;exact SeqAt.EqAt.str_int x t j u _ _ _ _ h
   ·rw [XI] at h;exact wpAny_eqBool_str h
 «strs»:=fun k x t v h=>by
  rcases kB h with ⟨i,u,rfl,e⟩ | ⟨y,u,rfl,e⟩
  ·exact nomatch e
  ·injection e with e1 _
   subst e1
   cases v<;>rfl
theorem SW (prog:Program)(w:World)(i:Int)(t:Tok):(gh prog w).is (.inl i) (.int i t)=true:=T5 i t
theorem SX (prog:Program)(w:World)(x:Str)(t:Tok):(gh prog w).is (.inr x) (.str x t)=true:=T6 x t
inductive V where
 |aS | bl (b:Bool) | int (i:Int) | str (x:Str) | jc (b:Array UInt8) | nP (b:UInt64) | ref (a:Addr) | ty (n:String)
 deriving DecidableEq
def RelV:V->Value->Prop
 | .aS,u=>u=Value.none
 | .bl b,u=>u=Value.bool b
 | .int i,u=>∃ t,u=Value.int i t
 | .str x,u=>∃ t,u=Value.str x t
 | .jc b,u=>∃ t,u=Value.bytes b t
 | .nP b,u=>∃ t,u=Value.float b t
 | .ref a,u=>u=Value.ref a
 | .ty n,u=>u=Value.type n
abbrev Vals:List V->List Value->Prop:=Paired RelV
theorem Vals.length {xs:List V}{us:List Value}(r:Vals xs us):xs.length=us.length:=Paired.length r
theorem Vals.get:∀ {xs:List V} {us:List Value} {i:Nat} {x:V},Vals xs us->xs[i]?=some x->∃ u,us[i]?=some u/\RelV x u
 |_,_,_,_,.nil,e=>by simp at e
 |_,_,0,_,.cons r _,e=>by simp at e;subst e;exact ⟨_,rfl,r⟩
 |_,_,i+1,x,.cons _ t,e=>by
  obtain ⟨u,h1,h2⟩:=Vals.get (i:=i) (x:=x) t (by simpa using e)
  exact ⟨u,by simpa using h1,h2⟩
theorem Vals.set {x:V}{u:Value}(r:RelV x u):∀ {xs:List V} {us:List Value} (i:Nat),Vals xs us->Vals (xs.set i x) (us.set i u)
 |_,_,_,.nil=>.nil
 |_,_,0,.cons _ t=>.cons r t
 |_,_,i+1,.cons q t=>.cons q (Vals.set r i t)
theorem Vals.append:∀ {xs ys:List V} {us ws:List Value},Vals xs us->Vals ys ws->Vals (xs++ys) (us++ws)
 |_,_,_,_,.nil,s=>s
 |_,_,_,_,.cons r t,s=>.cons r (Vals.append t s)
theorem Vals.take:∀ {xs:List V} {us:List Value} (n:Nat),Vals xs us->Vals (xs.take n) (us.take n)
 |_,_,0,_=>.nil
 |_,_,_+1,.nil=>.nil
 |_,_,n+1,.cons r t=>.cons r (Vals.take n t)
theorem Vals.drop:∀ {xs:List V} {us:List Value} (n:Nat),Vals xs us->Vals (xs.drop n) (us.drop n)
 |_,_,0,r=>r
 |_,_,_+1,.nil=>.nil
 |_,_,n+1,.cons _ t=>Vals.drop n t
def ip:Option V->Option Value->Prop
 |some v,some u=>RelV v u
 |none,none=>True
 |_,_=>False
def KV {κ:Type}:List (κ×V)->List (κ×Value)->Prop:=Paired fun (p : κ×V) (q : κ×Value)=>p.1=q.1/\RelV p.2 q.2
def kV:Key->V
 | .inl i=>.int i
 | .inr x=>.str x
inductive HO where
 |lst (xs:List V)
 |tup (xs:List V)
 |dK (aj:List (Key×V)) | dT (aj:List (List Key×V))
 |set (S:Int->Bool) (n:Nat)
 |ins (C dx:Addr) (fs:List (Str×V))
 |own (x:Addr)
 |xd (fs:List (Str×V))
 |met (f x:Addr)
 |cB (lo hi:Int)
 |cK (o:Obj) (u:HO)
 |km (ps:Array Value)
 |ext (φ:Heap->Prop)
abbrev Hp:=Addr->Option HO
def upd (H:Hp)(a:Addr)(o:HO):Hp:=fun b=>if b=a then some o else H b
theorem bE {H:Hp}{a:Addr}{o:HO}:upd H a o a=some o:=by unfold upd;rw [if_pos rfl]
theorem aP {H:Hp}{a b:Addr}{o:HO}(h:b ≠ a):upd H a o b=H b:=by unfold upd;rw [if_neg h]
theorem VS {H:Hp}{a:Addr}{o u:HO}:upd (upd H a o) a u=upd H a u:=by
 funext b;unfold upd;split<;>rfl
theorem Y9 {H:Hp}{a b:Addr}{o u:HO}(h:H a=some o)(h':H b=some u)(d:o ≠ u):a ≠ b:=by
 intro e;subst e;rw [h] at h';exact d (Option.some.inj h')
theorem iR {H:Hp}{a b:Addr}{o:HO}(h:H a=some o)(h':H b=none):a ≠ b:=by
 intro e;subst e;rw [h] at h';cases h'
section
variable (P:Program) (w:World)
def bQ (H:Hp)(h:Heap)(a:Addr):HO->Prop
 | .lst xs=>xs.length<=sizeLine/\∃ (its:List Value) (n:Nat),Vals xs its/\h.get? a=some { cls:=.type "list",data:=.seq its.toArray n }
 | .tup xs=>xs.length<=sizeLine/\∃ its:List Value,Vals xs its/\IsTup h a its.toArray
 | .dK aj=>aj.length<=sizeLine/\(a==sysModules)=false/\∃ vs,KV aj vs/\h.DictOf (gh P w) a vs
 | .dT aj=>aj.length<=sizeLine/\(a==sysModules)=false/\∃ xs:List (List Key×Addr×Value),
   Paired (fun (p:List Key×V) (q:List Key×Addr×Value)=>p.1=q.1/\H q.2.1=some (.tup (p.1.map kV))/\RelV p.2 q.2.2) aj xs /\
   ∃ o es ep,h.get? a=some o/\o.ExactDict/\o.data=.dict es ep/\es.toList=xs.map (entryOfKey (tupleKind (gh P w)))/\(xs.map (·.1)).Nodup
 | .set S n=>h.SetOf (intKind P w) a S n
 | .ins C dx fs=>H dx=some (.own a)/\fs.length<=1000/\dx ≠ a/\h.get? a=some (PySem.W.instObj C dx) /\
   ∃ mA,h.Ns1 dx mA/\(∀ f,ip (fs.lookup f) (mA f))/\PySem.Within mA (fs.map (·.1))
 | .own _=>∃ o,h.get? a=some o
 | .xd fs=>∃ mA,h.Ns1 a mA/\∀ f,ip (fs.lookup f) (mA f)
 | .cB lo hi=>∃ t u v,h.get? a=some { cls:=.type "range",data:=.fields #[.int lo t,.int hi u,.int 1 v] }
 | .cK o u=>h.get? a=some o/\bQ H h a u
 | .km ps=>h.get? a=some { cls:=.none,data:=.fields ps }
 | .met f x=>h.get? a=some (PySem.W.methodObj (.ref f) (.ref x))
 | .ext φ => φ h/\(∃ o,h.get? a=some o)/\∀ h1 h2:Heap,φ h1->(∀ o,h1.get? a=some o->h2.get? a=some o)->φ h2
def bO (H:Hp)(h:Heap):Prop:=∀ a o,H a=some o->bQ P w H h a o
end
section
variable {P:Program}{w:World}{H H':Hp}{h h':Heap}{a:Addr}{o:HO}
theorem bQ.lt (x:bQ P w H h a o):a<h.objs.size:=by
 cases o with
 |lst xs=>obtain ⟨_,_,_,_,e⟩:=x;exact Heap.lt_size e
 |tup xs=>obtain ⟨_,_,_,p⟩:=x;exact p.lt
 |dK aj=>obtain ⟨_,_,_,_,o,_,_,e,_⟩:=x;exact Heap.lt_size e
 |dT aj=>obtain ⟨_,_,_,_,o,_,_,e,_⟩:=x;exact Heap.lt_size e
 |set S n=>obtain ⟨o,_,_,_,e,_⟩:=x;exact Heap.lt_size e
 |ins C dx fs=>obtain ⟨_,_,_,e,_⟩:=x;exact Heap.lt_size e
 |own y=>obtain ⟨_,e⟩:=x;exact Heap.lt_size e
 |xd fs=>obtain ⟨_,⟨_,_,_,e,_⟩,_⟩:=x;exact Heap.lt_size e
 |cB lo hi=>obtain ⟨_,_,_,e⟩:=x;exact Heap.lt_size e
 |cK ob u=>obtain ⟨e,_⟩:=x;exact Heap.lt_size e
 |km ps=>exact Heap.lt_size (show h.get? a=some _ from x)
 |met f y=>exact Heap.lt_size (show h.get? a=some _ from x)
 |ext φ => obtain ⟨_,⟨_,e⟩,_⟩:=x;exact Heap.lt_size e
theorem Paired.Dd {α β:Type}{F G : α->β->Prop}:∀ {NQ:List α} {NR:List β},Paired F NQ NR->(∀ a b,F a b->G a b)->Paired G NQ NR
 |_,_,.nil,_=>.nil
 |_,_,.cons r t,f=>.cons (f _ _ r) (Paired.Dd t f)
theorem bQ.iq (x:bQ P w H h a o)(k:∀ b u,(b=a\/H b=some (.own a))->h.get? b=some u->h'.get? b=some u)(ho:∀ b,H b=some (.own a)->H' b=some (.own a))(ht:∀ b xs,H b=some (.tup xs)->H' b=some (.tup xs)):bQ P w H' h' a o:=by
 induction o with
 |lst xs=>obtain ⟨z,its,n,r,e⟩:=x;exact ⟨z,its,n,r,k _ _ (.inl rfl) e⟩
 |tup xs=>obtain ⟨z,its,r,ob,e,c⟩:=x;exact ⟨z,its,r,ob,k _ _ (.inl rfl) e,c⟩
 |dK aj=>obtain ⟨z,y,vs,r,ob,es,ep,e,c⟩:=x;exact ⟨z,y,vs,r,ob,es,ep,k _ _ (.inl rfl) e,c⟩
 |dT aj =>
  obtain ⟨z,y,xs,r,ob,es,ep,e,c⟩:=x
  exact ⟨z,y,xs,Paired.Dd r fun p q z=>⟨z.1,ht _ _ z.2.1,z.2.2⟩,ob,es,ep,k _ _ (.inl rfl) e,c⟩
 |set S n=>obtain ⟨ob,es,ep,t,e,c⟩:=x;exact ⟨ob,es,ep,t,k _ _ (.inl rfl) e,c⟩
 |ins C dx fs =>
  obtain ⟨d,z,ne,e,mA,⟨od,es,ep,e2,c⟩,r⟩:=x
  exact ⟨ho _ d,z,ne,k _ _ (.inl rfl) e,mA,⟨od,es,ep,k _ _ (.inr d) e2,c⟩,r⟩
 |own y=>obtain ⟨ob,e⟩:=x;exact ⟨ob,k _ _ (.inl rfl) e⟩
 |xd fs=>obtain ⟨mA,⟨od,es,ep,e,c⟩,r⟩:=x;exact ⟨mA,⟨od,es,ep,k _ _ (.inl rfl) e,c⟩,r⟩
 |cB lo hi=>obtain ⟨t,u,v,e⟩:=x;exact ⟨t,u,v,k _ _ (.inl rfl) e⟩
 |cK ob u ih=>obtain ⟨e,q⟩:=x;exact ⟨k _ _ (.inl rfl) e,ih q⟩
 |km ps =>
  have e:h.get? a=some { cls:=.none,data:=.fields ps }:=x
  show h'.get? a=some { cls:=.none,data:=.fields ps }
  exact k a _ (.inl rfl) e
 |met f y =>
  have e:h.get? a=some (PySem.W.methodObj (.ref f) (.ref y)):=x
  show h'.get? a=some (PySem.W.methodObj (.ref f) (.ref y))
  exact k a _ (.inl rfl) e
 |ext φ => obtain ⟨p,⟨o,e⟩,st⟩:=x;exact ⟨st _ _ p fun o q=>k _ _ (.inl rfl) q,⟨o,k _ _ (.inl rfl) e⟩,st⟩
theorem bO.lt (x:bO P w H h)(e:H a=some o):a<h.objs.size:=(x a o e).lt
theorem bO.fresh (x:bO P w H h)(e:h.objs.size<=a):H a=none:=by
 cases q:H a with
 |none=>rfl
 |some u=>exact absurd (Nat.lt_of_lt_of_le (x.lt q) e) (Nat.lt_irrefl _)
theorem bO.kept (x:bO P w H h)(k:∀ b u,h.get? b=some u->h'.get? b=some u):bO P w H h':=fun a o e =>
 (x a o e).iq (fun b u _ q=>k b u q) (fun _ q=>q) fun _ _ q=>q
theorem bO.laid (x:bO P w H h)(k:∀ b u,h.get? b=some u->h'.get? b=some u)(hp:h.objs.size<=a)(new:bQ P w (upd H a o) h' a o):bO P w (upd H a o) h':=fun b u e=>by
 have hn:=x.fresh hp
 by_cases hb:b=a
 ·subst hb;rw [bE] at e;cases e;exact new
 ·rw [aP hb] at e
  exact (x b u e).iq (fun c v _ q=>k c v q) (fun c q=>by rw [aP (iR q hn)];exact q) fun c xs q=>by rw [aP (iR q hn)];exact q
end
def Rd (H:Hp)(a:Addr)(u:HO):Prop:=H a=some u\/∃ o,H a=some (.cK o u)
theorem Rd.ok {P:Program}{w:World}{H:Hp}{h:Heap}{a:Addr}{u:HO}(r:Rd H a u)(x:bO P w H h):bQ P w H h a u:=by
 rcases r with r | ⟨o,r⟩
 ·exact x a u r
 ·obtain ⟨_,q⟩:=x a _ r
  exact q
def tW:Option HO->Prop
 |some (.lst _)=>True
 |some (.dK _)=>True
 |some (.dT _)=>True
 |some (.set _ _)=>True
 |some (.ins _ _ _)=>True
 |some (.ext _)=>True
 |_=>False
section
variable {P:Program}{w:World}{H:Hp}{h h':Heap}{x e:Addr}{o':HO}
theorem bO.write (ok:bO P w H h)(mu:tW (H x))(he:e=x\/H e=some (.own x))(k:∀ b u,b ≠ e->h.get? b=some u->h'.get? b=some u)(qI:∃ u,h'.get? e=some u)(new:bQ P w (upd H x o') h' x o'):bO P w (upd H x o') h':=fun b u q=>by
 have NS:∀ c y,H c=some (.own y)->c ≠ x:=fun c y r z=>by subst z;rw [r] at mu;exact mu
 have ZO:∀ c xs,H c=some (.tup xs)->c ≠ x:=fun c xs r z=>by subst z;rw [r] at mu;exact mu
 by_cases hb:b=x
 ·subst hb;rw [bE] at q;cases q;exact new
 ·rw [aP hb] at q
  by_cases nQ:b=e
  ·have q':H b=some (.own x):=by
    rcases he with z | z
    ·exact absurd (nQ.trans z) hb
    ·rw [nQ];exact z
   rw [q] at q';cases q'
   obtain ⟨v,hv⟩:=qI
   exact ⟨v,by rw [nQ];exact hv⟩
  ·refine (ok b u q).iq (fun c v hc r=>k c v ?_ r) (fun c r=>by rw [aP (NS c b r)];exact r) fun c xs r=>by rw [aP (ZO c xs r)];exact r
   rcases hc with rfl | hc
   ·exact nQ
   ·rintro rfl
    rcases he with z | z
    ·exact NS c b hc z
    ·rw [hc] at z;cases z;exact hb rfl
end
structure Un (fs ex:List Addr) (H H':Hp) (h h':Heap):Prop where
 keep:∀ b o,h.get? b=some o->H b=none->b ∉ fs->b ∉ ex->h'.get? b=some o
 slot:∀ b o,h.get? b=some o->H b=none->b ∈ fs->b ∉ ex->∃ sl,h'.get? b=some { o with slots:=sl }
 free:∀ b o,h.get? b=some o->H b=none->b ∉ ex->H' b=none
 there:∀ b o,h.get? b=some o->b ∉ ex->∃ o',h'.get? b=some o'
 eh:∀ b xs,H b=some (.tup xs)->H' b=some (.tup xs)
 dR:∀ b o u,H b=some (.cK o u)->H' b=some (.cK o u)
 eu:∀ b ps,H b=some (.km ps)->∃ more,H' b=some (.km (ps++more))
section
variable {fs fs' ex ex':List Addr}{H H1 H2:Hp}{h h1 h2 h':Heap}{a x e:Addr}{o:HO}
theorem Un.any (u:Un fs ex H H1 h h1){b:Addr}{ob:Obj}(q:h.get? b=some ob)(n:H b=none)(hx:b ∉ ex):∃ sl,h1.get? b=some { ob with slots:=sl }:=by
 by_cases hb:b ∈ fs
 ·exact u.slot b ob q n hb hx
 ·exact ⟨ob.slots,u.keep b ob q n hb hx⟩
theorem Un.kept (k:∀ b u,h.get? b=some u->h'.get? b=some u):Un fs ex H H h h' :=
 ⟨fun b ob q _ _ _=>k b ob q,fun b ob q _ _ _=>⟨ob.slots,k b ob q⟩,fun _ _ _ n _=>n,fun b ob q _=>⟨ob,k b ob q⟩,fun _ _ q=>q,fun _ _ _ q=>q,fun _ ps q=>⟨#[],by rw [q];simp⟩⟩
theorem Un.refl:Un fs ex H H h h:=Un.kept fun _ _ q=>q
theorem Un.laid (k:∀ b u,h.get? b=some u->h'.get? b=some u)(hp:h.objs.size<=a)(hn:H a=none):Un fs ex H (upd H a o) h h' where
 keep:=fun b u q _ _ _=>k b u q
 slot:=fun b u q _ _ _=>⟨u.slots,k b u q⟩
 free:=fun b u q n _=>by rw [aP (Nat.ne_of_lt (Nat.lt_of_lt_of_le (Heap.lt_size q) hp))];exact n
 there:=fun b u q _=>⟨u,k b u q⟩
 eh:=fun b xs q=>by rw [aP (iR q hn)];exact q
 dR:=fun b u xs q=>by rw [aP (iR q hn)];exact q
 eu:=fun b ps q=>⟨#[],by rw [aP (iR q hn),q];simp⟩
theorem Un.write (mu:tW (H x))(he:e=x\/H e=some (.own x))(k:∀ b u,b ≠ e->h.get? b=some u->h'.get? b=some u)(qI:∃ u,h'.get? e=some u):Un fs ex H (upd H x o) h h':=by
 have hx:∀ b,H b=none->b ≠ x:=fun b n z=>by subst z;rw [n] at mu;exact mu
 have hb:∀ b,H b=none->b ≠ e:=fun b n z=>by
  subst z
  rcases he with r | r
  ·exact hx b n r
  ·rw [n] at r;cases r
 have hm:∀ b u,H b=some u->¬ tW (some u)->b ≠ x:=fun b u q nm z=>by subst z;rw [q] at mu;exact nm mu
 refine ⟨fun b u q n _ _=>k b u (hb b n) q,fun b u q n _ _=>⟨u.slots,k b u (hb b n) q⟩,fun b u q n _=>by rw [aP (hx b n)];exact n,fun b u q _=>?_,
  fun b xs q=>by rw [aP (hm b _ q fun z=>z)];exact q,fun b u xs q=>by rw [aP (hm b _ q fun z=>z)];exact q,fun b ps q=>⟨#[],by rw [aP (hm b _ q fun z=>z),q];simp⟩⟩
 by_cases nQ:b=e
 ·subst nQ;exact qI
 ·exact ⟨u,k b u nQ q⟩
end
def xr (h:Heap)(H:Hp):List Addr:=(List.range h.objs.size).filter fun a=>(H a).isSome
def kL (h:Heap)(H:Hp):Heap:=PySem.W.hideAll h (xr h H)
theorem T7 (h:Heap)(H:Hp):(kL h H).objs.size=h.objs.size:=PySem.W.hideAll_size _ _
theorem UP {h:Heap}{H:Hp}{b:Addr}{o:Obj}(e:h.get? b=some o)(n:H b=none):(kL h H).get? b=some o :=
 PySem.W.hideAll_get _ e fun hm=>by
  have q:(H b).isSome=true:=(List.mem_filter.mp hm).2
  rw [n] at q;simp at q
theorem VU {h:Heap}{H:Hp}{b:Addr}{o:Obj}(e:(kL h H).get? b=some o):h.get? b=some o/\H b=none:=by
 have e':h.get? b=some o:=PySem.W.of_hideAll (xr h H) e
 refine ⟨e',?_⟩
 cases q:H b with
 |none=>rfl
 |some x =>
  have hm:b ∈ xr h H:=List.mem_filter.mpr ⟨List.mem_range.mpr (Heap.lt_size e'),by simp [q]⟩
  have z:(kL h H).get? b=none:=PySem.W.hideAll_none (xr h H) hm
  rw [z] at e;cases e
structure Mod (K:PySem.W.Frag) (mg:Str->Option Value) (base:Heap):Prop where
 nR:K.In base
 glob:base.Ns mainGlobals mg
 blt:∃ mb,base.Ns builtinsNs mb/\∀ x:Str,x ≠ "__name__" -> mb x=bootBuiltins x
 nolimit:base.NoLimit
structure Cx where
 prog:Program
 w:World
 K:PySem.W.Frag
 mg:Str->Option Value
 base:Heap
 A:Around
 N:List Str
 cy:Shared
 tG:Hp
 env:Env
 outer:List Env
 stack:List Env
 ex:List Addr
 fn:Str->Bool
 calm:Bool
 pn:List (Addr×Obj)
 xe:Value->Shared->Prop
def bG (l:List Env):List Addr:=l.filterMap (·.frame)
abbrev Cx.fs (X:Cx):List Addr:=bG X.outer
def jt (sc:Scope)(x:Str):Prop:=sc.names.lookup x=some .local\/sc.names.lookup x=some .cell\/sc.names.lookup x=some .free
def Loc (sc:Scope)(x:Str):Prop:=sc.names.lookup x=some .local\/sc.names.lookup x=some .cell
def Look (env:Env)(h:Heap)(m:Str->Option Value)(x:Str)(u:Value):Prop :=
 (env.kindOf x=some .local/\m x=some u)\/((env.kindOf x=some .cell\/env.kindOf x=some .free)/\∃ c,env.cells.lookup x=some c/\h.IsCell c (some u))
structure Cx.Ok (X:Cx):Prop where
 mod:Mod X.K X.mg X.base
 kind:X.env.scope.kind=.function
 glob:X.env.globals=mainGlobals
 blt:X.env.builtins=builtinsNs
 above:X.cy.heap.objs.size<=X.env.locals
 inj:∀ x y c,X.env.cells.lookup x=some c->X.env.cells.lookup y=some c->x=y
 has:∀ x,(X.env.kindOf x=some .cell\/X.env.kindOf x=some .free)->∃ c,X.env.cells.lookup x=some c
 kn:∀ x c,X.fn x=true->X.env.cells.lookup x=some c->X.cy.heap.objs.size<=c
 hd:X.calm=true->X.A.handled=none
 frames:X.A.frames=some X.stack
 jd:X.stack=X.outer\/(X.stack=X.env::X.outer/\X.env.frame=some X.env.locals)
 nS:∀ b ∈ X.ex,b ≠ X.env.locals/\∀ x c,X.env.cells.lookup x=some c->c ≠ b
 bs:∀ b o,X.base.get? b=some o->X.cy.heap.get? b=some o/\X.tG b=none
 iE:X.base.objs.size<=X.cy.heap.objs.size
 ke:∀ b o,X.base.get? b=some o->b ∉ X.ex
 kM:∀ b ∈ X.ex,b ∉ X.fs
 eA:X.cy.heap.FunFrames X.base X.outer
 gQ:∀ b ∈ X.fs,X.tG b=none
structure Inv (X:Cx) (pins:List (Addr×Obj)) (σ:List (Option V)) (H:Hp) (s:Shared):Prop where
 ok:X.Ok
 os:s.os=X.cy.os
 bare:AllBare s.gens
 base:Un X.fs X.ex X.tG H X.cy.heap s.heap
 loc:∃ m,s.heap.Ns X.env.locals m/\∀ (i:Nat) (x:Str) (v:V),X.N[i]?=some x->σ[i]?=some (some v)->jt X.env.scope x->∃ u,RelV v u/\Look X.env s.heap m x u
 cell:∀ x c,X.env.cells.lookup x=some c->∃ v,s.heap.IsCell c v
 free:H X.env.locals=none
 fA:∀ x c,X.env.cells.lookup x=some c->H c=none
 pin:∀ p ∈ X.pn++pins,s.heap.get? p.1=some p.2/\H p.1=none/\p.1 ≠ X.env.locals/\p.1 ∉ X.fs/\∀ v,p.2.data ≠ .cell v
 av:bO X.prog X.w H s.heap
 len : σ.length=X.N.length
section
variable {X:Cx}{pins:List (Addr×Obj)}{σ:List (Option V)}{H H':Hp}{s:Shared}{h':Heap}
theorem Cx.Ok.ZP (ok:X.Ok){b:Addr}{o:Obj}(e:X.base.get? b=some o):b ∉ X.fs:=fun hb=>by
 have:=(ok.eA.mem hb).1
 rw [e] at this;cases this
theorem Inv.bs (I:Inv X pins σ H s):∀ b o,X.base.get? b=some o->s.heap.get? b=some o/\H b=none:=fun b o e =>
 ⟨I.base.keep b o (I.ok.bs b o e).1 (I.ok.bs b o e).2 (I.ok.ZP e) (I.ok.ke b o e),I.base.free b o (I.ok.bs b o e).1 (I.ok.bs b o e).2 (I.ok.ke b o e)⟩
theorem Inv.bk (I:Inv X pins σ H s):∀ b o,X.base.get? b=some o->s.heap.get? b=some o:=fun b o e=>(I.bs b o e).1
theorem Inv.mod (I:Inv X pins σ H s):Mod X.K X.mg X.base:=I.ok.mod
theorem Inv.cU (I:Inv X pins σ H s):X.K.In s.heap:=I.ok.mod.nR.keeps I.bk
theorem Inv.lt (I:Inv X pins σ H s):X.env.locals<s.heap.objs.size:=let ⟨_,hn,_⟩:=I.loc;hn.lt
theorem Inv.sz (I:Inv X pins σ H s):X.cy.heap.objs.size<=s.heap.objs.size:=Nat.le_trans I.ok.above (Nat.le_of_lt I.lt)
theorem Inv.ZQ (I:Inv X pins σ H s){a:Addr}(h:s.heap.objs.size<=a):a ∉ X.fs:=fun hb=>by
 obtain ⟨_,o,ho,_⟩:=I.ok.eA.mem hb
 exact absurd (Nat.lt_of_lt_of_le (Heap.lt_size ho) (Nat.le_trans I.sz h)) (Nat.lt_irrefl _)
theorem Inv.kU (I:Inv X pins σ H s):∀ x c,X.env.cells.lookup x=some c->c ≠ X.env.locals:=fun x c e z=>by
 obtain ⟨v,o,ho,hd⟩:=I.cell x c e
 obtain ⟨m,⟨o',es,ep,ju,mF,_⟩,_⟩:=I.loc
 rw [z,ju] at ho;cases ho;rw [mF] at hd;cases hd
theorem Inv.eA (I:Inv X pins σ H s):s.heap.FunFrames X.base X.outer:=by
 have all:∀ (l:List Env),(∀ b ∈ bG l,b ∈ X.fs)->X.cy.heap.FunFrames X.base l->s.heap.FunFrames X.base l:=by
  intro l
  induction l with
  |nil=>intro _ _;trivial
  |cons env r ih =>
   intro hs hl
   obtain ⟨hk,⟨L,o,hf,hn,ho,hd⟩,hr⟩:=hl
   have hL:L ∈ X.fs:=hs L (by unfold bG;rw [List.filterMap_cons,hf];exact List.mem_cons_self)
   obtain ⟨sl,e⟩:=I.base.slot L o ho (I.ok.gQ L hL) hL fun z=>I.ok.kM L z hL
   exact ⟨hk,⟨L,_,hf,hn,e,hd⟩,ih (fun b hb=>hs b (by unfold bG;rw [List.filterMap_cons,hf];exact List.mem_cons_of_mem _ hb)) hr⟩
 exact all X.outer (fun _ hb=>hb) I.ok.eA
theorem Inv.stack (I:Inv X pins σ H s):s.heap.FunFrames X.base X.stack:=by
 rcases I.ok.jd with e | ⟨e,hf⟩
 ·rw [e];exact I.eA
 ·rw [e]
  obtain ⟨m,hn,_⟩:=I.loc
  refine .cons (by rw [I.ok.kind];decide) hf hn ?_ I.eA
  exact Heap.get?_none_of_le (Nat.le_trans I.ok.iE I.ok.above)
theorem Inv.lR (I:Inv X pins σ H s):∀ b ∈ bG X.stack,b ∈ X.env.locals::X.fs:=fun b hb=>by
 rcases I.ok.jd with e | ⟨e,hf⟩
 ·rw [e] at hb;exact List.mem_cons_of_mem _ hb
 ·rw [e] at hb
  unfold bG at hb
  rw [List.filterMap_cons,hf] at hb
  exact hb
theorem Inv.A8 (I:Inv X pins σ H s):∀ b ∈ bG X.stack,H b=none:=fun b hb=>by
 rcases List.mem_cons.mp (I.lR b hb) with e | hb
 ·rw [e];exact I.free
 ·obtain ⟨_,o,ho,_⟩:=I.ok.eA.mem hb
  exact I.base.free b o ho (I.ok.gQ b hb) fun z=>I.ok.kM b z hb
theorem Inv.step {g':Array GenState}{t':Nat}{d':Drawn}{ch:List Addr}(I:Inv X pins σ H s)(ko:∀ b ∈ ch,(b ∈ X.ex\/X.cy.heap.objs.size<=b)/\b ≠ X.env.locals/\(∀ x c,X.env.cells.lookup x=some c->c ≠ b)/\∀ p ∈ X.pn++pins,p.1 ≠ b)(keep:∀ b o,b ≠ X.env.locals->b ∉ X.fs->b ∉ ch->s.heap.get? b=some o->H b=none->h'.get? b=some o)(slot:∀ b o,b ≠ X.env.locals->b ∈ X.fs->b ∉ ch->s.heap.get? b=some o->H b=none->∃ sl,h'.get? b=some { o with slots:=sl })(free:∀ b o,b ∉ ch->s.heap.get? b=some o->H b=none->H' b=none)(there:∀ b o,b ∉ ch->s.heap.get? b=some o->∃ o',h'.get? b=some o')(eh:∀ b xs,H b=some (.tup xs)->H' b=some (.tup xs))(dR:∀ b o u,H b=some (.cK o u)->H' b=some (.cK o u))(eu:∀ b ps,H b=some (.km ps)->∃ more,H' b=some (.km (ps++more)))(ns:∀ m,s.heap.Ns X.env.locals m->h'.Ns X.env.locals m)(av:bO X.prog X.w H' h')(hg:AllBare g') :
  Inv X pins σ H' { s with heap:=h',gens:=g',drawn:=d',toks:=t' }:=by
 have qJ:∀ b o,X.cy.heap.get? b=some o->b ≠ X.env.locals:=fun b o e=>Nat.ne_of_lt (Nat.lt_of_lt_of_le (Heap.lt_size e) I.ok.above)
 have xt:∀ b o,X.cy.heap.get? b=some o->b ∉ X.ex->b ∉ ch:=fun b o e hx hb=>by
  rcases (ko b hb).1 with z | z
  ·exact hx z
  ·exact absurd (Nat.lt_of_lt_of_le (Heap.lt_size e) z) (Nat.lt_irrefl _)
 have cellK:∀ x c,X.env.cells.lookup x=some c->∀ v,s.heap.IsCell c v->h'.IsCell c v:=fun x c e v ⟨o,ho,hd⟩=>by
  have tX:c ∉ ch:=fun z=>(ko c z).2.2.1 x c e rfl
  by_cases hc:c ∈ X.fs
  ·obtain ⟨sl,q⟩:=slot c o (I.kU x c e) hc tX ho (I.fA x c e)
   exact ⟨_,q,hd⟩
  ·exact ⟨o,keep c o (I.kU x c e) hc tX ho (I.fA x c e),hd⟩
 refine ⟨I.ok,I.os,hg,⟨fun b o e n hb hx=>?_,fun b o e n hb hx=>?_,fun b o e n hx=>?_,fun b o e hx=>?_,fun b xs e=>eh b xs (I.base.eh b xs e),fun b o xs e=>dR b o xs (I.base.dR b o xs e),fun b ps e=>?_⟩,?_,fun x c e=>?_,?_,fun x c e=>?_,fun p hp=>?_,av,I.len⟩
 ·exact keep b o (qJ b o e) hb (xt b o e hx) (I.base.keep b o e n hb hx) (I.base.free b o e n hx)
 ·obtain ⟨sl,e1⟩:=I.base.slot b o e n hb hx
  obtain ⟨xu,e2⟩:=slot b _ (qJ b o e) hb (xt b o e hx) e1 (I.base.free b o e n hx)
  exact ⟨xu,e2⟩
 ·obtain ⟨o',e1⟩:=I.base.there b o e hx
  exact free b o' (xt b o e hx) e1 (I.base.free b o e n hx)
 ·obtain ⟨o',e1⟩:=I.base.there b o e hx
  exact there b o' (xt b o e hx) e1
 ·obtain ⟨m1,e1⟩:=I.base.eu b ps e
  obtain ⟨m2,e2⟩:=eu b _ e1
  exact ⟨m1++m2,by rw [e2,Array.append_assoc]⟩
 ·obtain ⟨m,hn,hl⟩:=I.loc
  refine ⟨m,ns m hn,fun i x v e1 e2 e3=>?_⟩
  obtain ⟨u,r,l⟩:=hl i x v e1 e2 e3
  refine ⟨u,r,?_⟩
  rcases l with l | ⟨k,c,e,z⟩
  ·exact .inl l
  ·exact .inr ⟨k,c,e,cellK x c e _ z⟩
 ·obtain ⟨v,z⟩:=I.cell x c e
  exact ⟨v,cellK x c e v z⟩
 ·obtain ⟨m,⟨o,_,_,ho,_⟩,_⟩:=I.loc
  exact free _ o (fun z=>(ko _ z).2.1 rfl) ho I.free
 ·obtain ⟨v,o,ho,hd⟩:=I.cell x c e
  exact free c o (fun z=>(ko c z).2.2.1 x c e rfl) ho (I.fA x c e)
 ·obtain ⟨e,n,ne,nf,d⟩:=I.pin p hp
  have tX:p.1 ∉ ch:=fun z=>(ko p.1 z).2.2.2 p hp rfl
  exact ⟨keep p.1 p.2 ne nf tX e n,free p.1 p.2 tX e n,ne,nf,d⟩
theorem Inv.un {t':Nat}(I:Inv X pins σ H s)(u:Un X.fs [] H H' s.heap h')(av:bO X.prog X.w H' h'):Inv X pins σ H' { s with heap:=h',toks:=t' }:=by
 obtain ⟨m,⟨o,es,ep,ho,r⟩,_⟩:=id I.loc
 obtain ⟨sl,hL⟩:=u.any ho I.free (by simp)
 exact I.step (g':=s.gens) (d':=s.drawn) (ch:=[]) (fun _ z=>nomatch z) (fun b o _ hb _ e n=>u.keep b o e n hb (by simp)) (fun b o _ hb _ e n=>u.slot b o e n hb (by simp)) (fun b o _ e n=>u.free b o e n (by simp)) (fun b o _ e=>u.there b o e (by simp)) u.eh u.dR u.eu (fun m' hm=>by
  obtain ⟨o',DW,DX,ju,r'⟩:=hm
  rw [ho] at ju;cases ju
  exact ⟨_,DW,DX,hL,r'⟩) av I.bare
theorem Inv.call {g':Array GenState}{t':Nat}{d':Drawn}{ch:List Addr}(I:Inv X pins σ H s)(u:Un (bG X.stack) ch H H' s.heap h')(av:bO X.prog X.w H' h')(hg:AllBare g')(ko:∀ b ∈ ch,(b ∈ X.ex\/X.cy.heap.objs.size<=b)/\b ≠ X.env.locals/\(∀ x c,X.env.cells.lookup x=some c->c ≠ b)/\∀ p ∈ X.pn++pins,p.1 ≠ b) :
  Inv X pins σ H' { s with heap:=h',gens:=g',drawn:=d',toks:=t' }:=by
 obtain ⟨m,⟨o,es,ep,ho,r⟩,_⟩:=id I.loc
 obtain ⟨sl,hL⟩:=u.any ho I.free fun z=>(ko _ z).2.1 rfl
 exact I.step (ch:=ch) ko (fun b o hL hb hc e n=>u.keep b o e n (fun z=>(List.mem_cons.mp (I.lR b z)).elim hL hb) hc) (fun b o _ _ hc e n=>u.any e n hc) (fun b o hc e n=>u.free b o e n hc) (fun b o hc e=>u.there b o e hc) u.eh u.dR u.eu (fun m' hm=>by
  obtain ⟨o',DW,DX,ju,r'⟩:=hm
  rw [ho] at ju;cases ju
  exact ⟨_,DW,DX,hL,r'⟩) av hg
theorem Inv.turned {t':Nat}{it:Addr}(I:Inv X pins σ H s)(k:∀ b o,b ≠ it->s.heap.get? b=some o->h'.get? b=some o)(hn:H it=none)(hL:it ≠ X.env.locals)(h1:it ∈ X.ex\/X.cy.heap.objs.size<=it)(h2:∀ x c,X.env.cells.lookup x=some c->c ≠ it)(h3:∀ p ∈ X.pn++pins,p.1 ≠ it):Inv X pins σ H { s with heap:=h',toks:=t' }:=by
 have mG:∀ b u,H b=some u->b ≠ it:=fun b u e z=>by rw [z,hn] at e;cases e
 refine I.step (g':=s.gens) (d':=s.drawn) (ch:=[it]) (fun b hb=>?_) (fun b o _ _ hc e _=>k b o (fun z=>hc (by simp [z])) e) (fun b o _ _ hc e _=>⟨o.slots,k b o (fun z=>hc (by simp [z])) e⟩) (fun _ _ _ _ n=>n)
  (fun b o hc e=>⟨o,k b o (fun z=>hc (by simp [z])) e⟩) (fun _ _ e=>e) (fun _ _ _ e=>e) (fun b ps e=>⟨#[],by rw [e];simp⟩) (fun m hm=>?_) (fun b u e=>?_) I.bare
 ·have e:b=it:=by simpa using hb
  subst e
  exact ⟨h1,hL,h2,h3⟩
 ·obtain ⟨o,es,ep,ho,r⟩:=hm
  exact ⟨o,es,ep,k _ o (Ne.symm hL) ho,r⟩
 ·refine (I.av b u e).iq (fun c v hc q=>k c v ?_ q) (fun _ q=>q) fun _ _ q=>q
  rcases hc with z | z
  ·rw [z];exact mG b u e
  ·exact mG c _ z
theorem Inv.tok (I:Inv X pins σ H s)(t:Nat):Inv X pins σ H { s with toks:=t }:=I.un (h':=s.heap) (t':=t) Un.refl I.av
theorem Inv.kept {t':Nat}(I:Inv X pins σ H s)(k:∀ b u,s.heap.get? b=some u->h'.get? b=some u):Inv X pins σ H { s with heap:=h',toks:=t' }:=I.un (Un.kept k) (I.av.kept k)
theorem Inv.laid {a:Addr}{o:HO}{t':Nat}(I:Inv X pins σ H s)(k:∀ b u,s.heap.get? b=some u->h'.get? b=some u)(hp:s.heap.objs.size<=a)(new:bQ X.prog X.w (upd H a o) h' a o) :
  Inv X pins σ (upd H a o) { s with heap:=h',toks:=t' }:=I.un (Un.laid k hp (I.av.fresh hp)) (I.av.laid k hp new)
theorem Inv.write {x e:Addr}{o:HO}{t':Nat}(I:Inv X pins σ H s)(mu:tW (H x))(he:e=x\/H e=some (.own x))(k:∀ b u,b ≠ e->s.heap.get? b=some u->h'.get? b=some u)(qI:∃ u,h'.get? e=some u)(new:bQ X.prog X.w (upd H x o) h' x o):Inv X pins σ (upd H x o) { s with heap:=h',toks:=t' }:=I.un (Un.write mu he k qI) (I.av.write mu he k qI new)
theorem Inv.Kq {sP:List (Addr×Obj)}(I:Inv X pins σ H s)(h:∀ p ∈ sP,s.heap.get? p.1=some p.2/\H p.1=none/\p.1 ≠ X.env.locals/\p.1 ∉ X.fs/\∀ v,p.2.data ≠ .cell v):Inv X sP σ H s :=
 ⟨I.ok,I.os,I.bare,I.base,I.loc,I.cell,I.free,I.fA,fun p hp=>(List.mem_append.mp hp).elim (fun z=>I.pin p (List.mem_append_left _ z)) (h p),I.av,I.len⟩
theorem Aw {N:List Str}(hN:N.Nodup){i j:Nat}{x:Str}(a:N[i]?=some x)(b:N[j]?=some x):i=j:=by
 obtain ⟨h1,e1⟩:=List.getElem?_eq_some_iff.mp a
 obtain ⟨h2,e2⟩:=List.getElem?_eq_some_iff.mp b
 exact (List.getElem_inj hN).mp (e1.trans e2.symm)
theorem IU {M:Model}{A:Around}{E:Value->Shared->Prop}{i:Nat}{x:Str}{v:V}{u:Value}{Q:Unit->Shared->Prop}(I:Inv X pins σ H s)(hN:X.N.Nodup)(hi:X.N[i]?=some x)(hx:Loc X.env.scope x)(r:RelV v u)(h:∀ s',Inv X pins (σ.set i (some v)) H s'->(∃ a,Heap.SameBut a s.heap s'.heap/\(a=X.env.locals\/X.env.cells.lookup x=some a))->Q () s')(hf:X.fn x=true\/X.env.scope.names.lookup x=some .local:=by first | exact .inl rfl | exact .inr rfl | assumption):wpAny M A (storeName X.env x u) Q E s:=by
 obtain ⟨m,hn,hl⟩:=id I.loc
 have ZR:(X.env.scope.kind==.class || (X.env.scope.kind==.module&&X.env.locals != X.env.globals))=false:=by rw [I.ok.kind];rfl
 have NT:i < σ.length:=by rw [I.len];exact (List.getElem?_eq_some_iff.mp hi).1
 have kU:=I.kU
 have tracked:∀ {a:Addr} {h':Heap},(∃ o,s.heap.get? a=some o/\H a=none)->Heap.SameBut a s.heap h'->bO X.prog X.w H h':=fun {a h'} ha hs b ob e=>by
  obtain ⟨_,_,md⟩:=ha
  refine (I.av b ob e).iq (fun c w' hc q=>(hs.2 c ?_).trans q) (fun _ q=>q) fun _ _ q=>q
  rintro rfl
  rcases hc with rfl | hc
  ·rw [md] at e;cases e
  ·rw [md] at hc;cases hc
 rcases hx with hk | hk
 ·refine wpAny_storeName_local hk hn (fun h' DY hs=>?_) ZR
  obtain ⟨oL,_,_,tY,_⟩:=id hn
  refine h _ ⟨I.ok,I.os,I.bare,⟨fun b o e n hb hx=>?_,fun b o e n hb hx=>?_,I.base.free,fun b o e hx=>?_,I.base.eh,I.base.dR,I.base.eu⟩,⟨_,DY,fun j y v' e1 e2 e3=>?_⟩,fun y c e=>?_,I.free,I.fA,fun p hp=>?_,tracked ⟨oL,tY,I.free⟩ hs,by simpa using I.len⟩ ⟨_,hs,.inl rfl⟩
  ·exact (hs.2 b (Nat.ne_of_lt (Nat.lt_of_lt_of_le (Heap.lt_size e) I.ok.above))).trans (I.base.keep b o e n hb hx)
  ·obtain ⟨sl,e1⟩:=I.base.slot b o e n hb hx
   exact ⟨sl,(hs.2 b (Nat.ne_of_lt (Nat.lt_of_lt_of_le (Heap.lt_size e) I.ok.above))).trans e1⟩
  ·obtain ⟨o',e1⟩:=I.base.there b o e hx
   exact ⟨o',(hs.2 b (Nat.ne_of_lt (Nat.lt_of_lt_of_le (Heap.lt_size e) I.ok.above))).trans e1⟩
  ·by_cases hj:j=i
   ·subst hj
    rw [hi] at e1;cases e1
    rw [List.getElem?_set_self NT] at e2
    cases e2
    exact ⟨u,r,.inl ⟨hk,by simp⟩⟩
   ·rw [List.getElem?_set_ne (Ne.symm hj)] at e2
    obtain ⟨u',r',q⟩:=hl j y v' e1 e2 e3
    refine ⟨u',r',?_⟩
    rcases q with ⟨k,e⟩ | ⟨k,c,e,z⟩
    ·refine .inl ⟨k,?_⟩
     have:y ≠ x:=fun e=>hj (Aw hN e1 (e ▸ hi))
     simp [this,e]
    ·exact .inr ⟨k,c,e,z.sameBut hs (kU y c e)⟩
  ·obtain ⟨w',z⟩:=I.cell y c e
   exact ⟨w',z.sameBut hs (kU y c e)⟩
  ·obtain ⟨e,n,ne,nf,d⟩:=I.pin p hp
   exact ⟨(hs.2 p.1 ne).trans e,n,ne,nf,d⟩
 ·have DZ:X.fn x=true:=by
   rcases hf with z | z
   ·exact z
   ·rw [z] at hk;cases hk
  obtain ⟨c,hc⟩:=I.ok.has x (.inl hk)
  obtain ⟨w',z⟩:=I.cell x c hc
  refine wpAny_storeName_cell I.ok.kind hk hc z (fun h' gR hs=>?_)
  obtain ⟨oc,Pj,ZS⟩:=id z
  refine h { s with heap:=h' } ⟨I.ok,I.os,I.bare,⟨fun b o e n hb hx=>?_,fun b o e n hb hx=>?_,I.base.free,fun b o e hx=>?_,I.base.eh,I.base.dR,I.base.eu⟩,⟨m,hn.sameBut hs (Ne.symm (kU x c hc)),fun j y v' e1 e2 e3=>?_⟩,fun y c' e=>?_,I.free,I.fA,fun p hp=>?_,tracked ⟨oc,Pj,I.fA x c hc⟩ hs,by simpa using I.len⟩ ⟨c,hs,.inr hc⟩
  ·exact (hs.2 b (Nat.ne_of_lt (Nat.lt_of_lt_of_le (Heap.lt_size e) (I.ok.kn x c DZ hc)))).trans (I.base.keep b o e n hb hx)
  ·obtain ⟨sl,e1⟩:=I.base.slot b o e n hb hx
   exact ⟨sl,(hs.2 b (Nat.ne_of_lt (Nat.lt_of_lt_of_le (Heap.lt_size e) (I.ok.kn x c DZ hc)))).trans e1⟩
  ·obtain ⟨o',e1⟩:=I.base.there b o e hx
   exact ⟨o',(hs.2 b (Nat.ne_of_lt (Nat.lt_of_lt_of_le (Heap.lt_size e) (I.ok.kn x c DZ hc)))).trans e1⟩
  ·by_cases hj:j=i
   ·subst hj
    rw [hi] at e1;cases e1
    rw [List.getElem?_set_self NT] at e2
    cases e2
    exact ⟨u,r,.inr ⟨.inl hk,c,hc,gR⟩⟩
   ·rw [List.getElem?_set_ne (Ne.symm hj)] at e2
    obtain ⟨u',r',q⟩:=hl j y v' e1 e2 e3
    refine ⟨u',r',?_⟩
    rcases q with q | ⟨k,c',e,z'⟩
    ·exact .inl q
    ·refine .inr ⟨k,c',e,z'.sameBut hs ?_⟩
     rintro rfl
     exact hj (Aw hN e1 (I.ok.inj _ _ _ e hc ▸ hi))
  ·by_cases Pk:c'=c
   ·subst Pk;exact ⟨_,gR⟩
   ·obtain ⟨w2,z2⟩:=I.cell y c' e
    exact ⟨w2,z2.sameBut hs Pk⟩
  ·obtain ⟨e,n,ne,nf,d⟩:=I.pin p hp
   refine ⟨(hs.2 p.1 ?_).trans e,n,ne,nf,d⟩
   intro q
   rw [q,Pj] at e
   have q':oc=p.2:=Option.some.inj e
   exact d w' (by rw [<- q'];exact ZS)
theorem Ax {M:Model}{A:Around}{E:Value->Shared->Prop}{i:Nat}{x:Str}{v:V}{u:Value}{Q:Unit->Shared->Prop}(I:Inv X pins σ H s)(hN:X.N.Nodup)(hi:X.N[i]?=some x)(hx:Loc X.env.scope x)(r:RelV v u)(h:∀ s',Inv X pins (σ.set i (some v)) H s'->Q () s')(hf:X.fn x=true\/X.env.scope.names.lookup x=some .local:=by first | exact .inl rfl | exact .inr rfl | assumption):wpAny M A (storeName X.env x u) Q E s :=
 IU I hN hi hx r (fun s' I' _=>h s' I') hf
theorem Inv.wm {s':Shared}{ch:List Addr}(I:Inv X pins σ H s)(ho:s'.os=s.os)(u:Un (bG X.stack) ch H H' s.heap s'.heap)(av:bO X.prog X.w H' s'.heap)(hg:AllBare s'.gens)(ko:∀ b ∈ ch,(b ∈ X.ex\/X.cy.heap.objs.size<=b)/\b ≠ X.env.locals/\(∀ x c,X.env.cells.lookup x=some c->c ≠ b)/\∀ p ∈ X.pn++pins,p.1 ≠ b):Inv X pins σ H' s':=by
 obtain ⟨h',g',d',t',o'⟩:=s'
 have e:o'=s.os:=ho
 subst e
 exact I.call (g':=g') (t':=t') (d':=d') u av hg ko
end
abbrev XK:=Value->Option Addr->Hp->Prop
abbrev St:=List (Option V)
abbrev VK:=V->Hp->Prop
abbrev TE:=St->Hp->VK->Prop
abbrev TT:=St->Hp->(Bool->Hp->Prop)->Prop
abbrev TA:=St->Hp->(List V->Hp->Prop)->Prop
structure Ends where
 nx:St->Hp->Prop
 rt:VK
 bk:St->Hp->Prop:=fun _ _=>False
 ct:St->Hp->Prop:=fun _ _=>False
abbrev TS:=Ends->St->Hp->Prop
def EP (X:Cx)(pins:List (Addr×Obj))(σ:St)(Q:VK)(u:Value)(s':Shared):Prop:=∃ v H',Inv X pins σ H' s'/\RelV v u/\Q v H'
def TP (X:Cx)(pins:List (Addr×Obj))(σ:St)(Q:Bool->Hp->Prop)(b:Bool)(s':Shared):Prop:=∃ H',Inv X pins σ H' s'/\Q b H'
def AP (X:Cx)(pins:List (Addr×Obj))(σ:St)(Q:List V->Hp->Prop)(us:List Value)(s':Shared):Prop:=∃ vs H',Inv X pins σ H' s'/\Vals vs us/\Q vs H'
def SP (X:Cx)(pins:List (Addr×Obj))(D:Ends)(f:Flow)(s':Shared):Prop :=
 match f with
 | .next=>∃ az H',Inv X pins az H' s'/\D.nx az H'
 | .brk=>∃ az H',Inv X pins az H' s'/\D.bk az H'
 | .cont=>∃ az H',Inv X pins az H' s'/\D.ct az H'
 | .ret u=>∃ v az H',Inv X pins az H' s'/\RelV v u/\D.rt v H'
def PE (X:Cx)(e:Expr)(t:TE):Prop :=
 ∀ (pins:List (Addr×Obj)) (s:Shared) (σ:St) (H:Hp) (Q:VK),Inv X pins σ H s->t σ H Q->wpAny (model X.prog X.w) X.A (eval e X.env) (EP X pins σ Q) X.xe s
def PT (X:Cx)(e:Expr)(t:TT):Prop :=
 ∀ (pins:List (Addr×Obj)) (s:Shared) (σ:St) (H:Hp) (Q:Bool->Hp->Prop),Inv X pins σ H s->t σ H Q->wpAny (model X.prog X.w) X.A (isTrue e X.env (eval e X.env)) (TP X pins σ Q) X.xe s
def PW (X:Cx)(e:Expr)(t:TT):Prop :=
 ∀ (whole:Sem Value) (pins:List (Addr×Obj)) (s:Shared) (σ:St) (H:Hp) (Q:Bool->Hp->Prop),Inv X pins σ H s->t σ H Q->wpAny (model X.prog X.w) X.A (isTrue e X.env whole) (TP X pins σ Q) X.xe s
theorem PW.pt {X:Cx}{e:Expr}{t:TT}(h:PW X e t):PT X e t:=h _
def PA (X:Cx)(es:List Expr)(t:TA):Prop :=
 ∀ (pos:Pos) (pins:List (Addr×Obj)) (s:Shared) (σ:St) (H:Hp) (Q:List V->Hp->Prop),Inv X pins σ H s->t σ H Q->wpAny (model X.prog X.w) X.A (spliced (backTo pos (starEach es X.env))) (AP X pins σ Q) X.xe s
def PS (X:Cx)(st:Stmt)(t:TS):Prop :=
 ∀ (pins:List (Addr×Obj)) (s:Shared) (σ:St) (H:Hp) (D:Ends),Inv X pins σ H s->t D σ H->wpAny (model X.prog X.w) X.A (exec st X.env) (SP X pins D) X.xe s
def cL (X:Cx)(st:List Stmt)(t:TS):Prop :=
 ∀ (pins:List (Addr×Obj)) (s:Shared) (σ:St) (H:Hp) (D:Ends),Inv X pins σ H s->t D σ H->wpAny (model X.prog X.w) X.A (execs st X.env) (SP X pins D) X.xe s
theorem ay {α:Type}{t:Sem α}{Q Q' : α->Shared->Prop}{M:Model}{A:Around}{E:Value->Shared->Prop}{s:Shared}(h:wpAny M A t Q E s)(hQ:∀ a s,Q a s->Q' a s):wpAny M A t Q' E s:=wpAny_mono h hQ fun _ _ x=>x
section
variable {X:Cx}
def bT (i:Nat):TE:=fun σ H Q=>∃ v,σ[i]?=some (some v)/\Q v H
def tC (v:V):TE:=fun _ H Q=>Q v H
theorem ni {i:Nat}{x:Str}{pos:Pos}(hN:X.N[i]?=some x)(hv:jt X.env.scope x)(hd:(x==("__debug__" : Str))=false:=by decide)(eC:(x==("__classdict__" : Str))=false:=by decide):PE X (.Name x pos) (bT i):=by
 intro pins s σ H Q I h
 obtain ⟨v,e,h⟩:=h
 obtain ⟨m,hn,hl⟩:=I.loc
 obtain ⟨u,r,l⟩:=hl i x v hN e hv
 have fin:EP X pins σ Q u s:=⟨v,H,I,r,h⟩
 rcases l with ⟨hk,hm⟩ | ⟨hk,c,hc,MN⟩
 ·exact wpAny_Name (wpAny_loadName_local I.ok.kind hk hn hm fin) hd
 ·rcases hk with hk | hk
  ·exact wpAny_Name (wpAny_loadName_cell I.ok.kind hk hc MN fin) hd
  ·exact wpAny_Name (wpAny_loadName_free I.ok.kind hk hc MN fin eC) hd
theorem nj {i j pos}:PE X (.Constant (.int i) j pos) (tC (.int i)):=fun _ _ _ H _ I h=>wpAny_Constant_int ⟨.int i,H,I.tok _,⟨_,rfl⟩,h⟩
theorem XN {j pos}:PE X (.Constant .none j pos) (tC .aS):=fun _ _ _ H _ I h=>Constant_none ⟨.aS,H,I,rfl,h⟩
theorem Ls {x j pos}:PE X (.Constant (.str x) j pos) (tC (.str x)):=fun _ _ _ H _ I h=>Calls.Constant_str ⟨.str x,H,I.tok _,⟨_,rfl⟩,h⟩
def Gl (X:Cx)(x:Str):Prop:=X.env.kindOf x=some .globalImplicit
theorem sd {E:Value->Shared->Prop}{pins:List (Addr×Obj)}{s:Shared}{σ:St}{H:Hp}{x:Str}{u:Value}{pos:Pos}{Q:Value->Shared->Prop}(I:Inv X pins σ H s)(hg:Gl X x)(hm:X.mg x=some u)(h:Q u s)(hd:(x==("__debug__" : Str))=false:=by decide):wpAny (model X.prog X.w) X.A (eval (.Name x pos) X.env) Q E s :=
 Calls.Name_function_global I.ok.kind hg (Calls.loadGlobal_global (by rw [I.ok.glob];exact I.mod.glob.keeps I.bk) hm h) hd
theorem lS {E:Value->Shared->Prop}{pins:List (Addr×Obj)}{s:Shared}{σ:St}{H:Hp}{x:Str}{u:Value}{pos:Pos}{Q:Value->Shared->Prop}(I:Inv X pins σ H s)(hg:Gl X x)(hm:X.mg x=none)(hv:bootBuiltins x=some u)(h:Q u s)(hn:x ≠ "__name__" := by decide)(hd:(x==("__debug__" : Str))=false:=by decide):wpAny (model X.prog X.w) X.A (eval (.Name x pos) X.env) Q E s:=by
 obtain ⟨mb,h1,h2⟩:=I.mod.blt
 exact Calls.Name_function_global I.ok.kind hg (Calls.loadGlobal_builtin (by rw [I.ok.glob];exact I.mod.glob.keeps I.bk) hm (by rw [I.ok.blt];exact h1.keeps I.bk) ((h2 x hn).trans hv) h) hd
theorem gJ {x:Str}{v:V}{u:Value}{pos:Pos}(hg:Gl X x)(hm:X.mg x=some u)(r:RelV v u)(hd:(x==("__debug__" : Str))=false:=by decide):PE X (.Name x pos) (tC v) :=
 fun _ _ _ H _ I h=>sd I hg hm ⟨v,H,I,r,h⟩ hd
theorem Kr {x:Str}{v:V}{u:Value}{pos:Pos}(hg:Gl X x)(hm:X.mg x=none)(hv:bootBuiltins x=some u)(r:RelV v u)(hn:x ≠ "__name__" := by decide)(hd:(x==("__debug__" : Str))=false:=by decide):PE X (.Name x pos) (tC v) :=
 fun _ _ _ H _ I h=>lS I hg hm hv ⟨v,H,I,r,h⟩ hn hd
variable {a b:Expr}{ta tb:TE}{pos:Pos}
def tB (t:TE):TT:=fun σ H Q=>t σ H fun x H1=>∃ c,x=.bl c/\Q c H1
theorem Lv {e:Expr}{t:TE}(h:PE X e t)(he:∀ whole,isTrue e X.env whole=(do let v <- whole;standAt e.pos;holding [v] (truthy v)):=by intro _;rfl):PT X e (tB t):=by
 intro pins s σ H Q I hw
 refine isTrue_plain (ay (h pins s σ H _ I hw) fun v s1 ⟨x,H1,I1,r1,q1⟩=>?_) (he _)
 obtain ⟨d,rfl,q⟩:=q1
 cases r1
 exact wpAny_truthy_bool ⟨H1,I1,q⟩
variable {tA xv:TT}{rest:List Expr}
def De (t u:TT):TT:=fun σ H Q=>t σ H fun c H1=>if c=true then u σ H1 Q else Q false H1
def D1 (t u:TT):TT:=fun σ H Q=>t σ H fun c H1=>if c=true then Q true H1 else u σ H1 Q
def NU (t:TT):TT:=fun σ H Q=>t σ H fun c H1=>Q (!c) H1
theorem VV (ha:PT X a tA):PW X (.BoolOp .And [a] pos) tA:=by
 intro wh pins s σ H Q I h
 refine isTrue_and (ay (ha pins s σ H Q I h) fun c s1 e=>?_)
 cases c with
 |true=>exact isTrue_and_nil e
 |false=>exact e
theorem XO (ha:PT X a tA):PW X (.BoolOp .Or [a] pos) tA:=by
 intro wh pins s σ H Q I h
 refine isTrue_or (ay (ha pins s σ H Q I h) fun c s1 e=>?_)
 cases c with
 |false=>exact isTrue_or_nil e
 |true=>exact e
theorem Lw (ha:PT X a tA)(hb:PW X (.BoolOp .And (b::rest) pos) xv):PW X (.BoolOp .And (a::b::rest) pos) (De tA xv):=by
 intro wh pins s σ H Q I h
 refine isTrue_and (ay (ha pins s σ H _ I h) fun c s1 ⟨H1,I1,q1⟩=>?_)
 cases c with
 |true=>exact hb wh pins s1 σ H1 Q I1 q1
 |false=>exact ⟨H1,I1,q1⟩
theorem MO (ha:PT X a tA)(hb:PW X (.BoolOp .Or (b::rest) pos) xv):PW X (.BoolOp .Or (a::b::rest) pos) (D1 tA xv):=by
 intro wh pins s σ H Q I h
 refine isTrue_or (ay (ha pins s σ H _ I h) fun c s1 ⟨H1,I1,q1⟩=>?_)
 cases c with
 |true=>exact ⟨H1,I1,q1⟩
 |false=>exact hb wh pins s1 σ H1 Q I1 q1
theorem XQ (ha:PT X a tA):PT X (.UnaryOp .Not a pos) (NU tA):=by
 intro pins s σ H Q I h
 exact isTrue_not (ha pins s σ H (fun c H1=>Q (!c) H1) I h)
def Cy (ta tb:TE):TE:=fun σ H Q=>ta σ H fun x H1=>∃ c,x=.bl c/\if c=true then tb σ H1 Q else Q (.bl false) H1
def Df (ta tb:TE):TE:=fun σ H Q=>ta σ H fun x H1=>∃ c,x=.bl c/\if c=true then Q (.bl true) H1 else tb σ H1 Q
def MP (ta:TE):TE:=fun σ H Q=>ta σ H fun x H1=>∃ c,x=.bl c/\Q (.bl (!c)) H1
theorem XR {op}{t:TE}(h:PE X a t):PE X (.BoolOp op [a] pos) t:=fun pins s σ H Q I hw=>BoolOp_one (h pins s σ H Q I hw)
theorem Lx (ha:PE X a ta)(hb:PE X (.BoolOp .And (b::rest) pos) tb):PE X (.BoolOp .And (a::b::rest) pos) (Cy ta tb):=by
 intro pins s σ H Q I h
 refine BoolOp_and (ay (ha pins s σ H _ I h) fun v s1 ⟨x,H1,I1,r1,q1⟩=>?_)
 obtain ⟨c,rfl,q1⟩:=q1
 cases r1
 refine wpAny_truthy_bool ?_
 cases c with
 |true=>exact hb pins s1 σ H1 Q I1 q1
 |false=>exact ⟨.bl false,H1,I1,rfl,q1⟩
theorem MQ (ha:PE X a ta)(hb:PE X (.BoolOp .Or (b::rest) pos) tb):PE X (.BoolOp .Or (a::b::rest) pos) (Df ta tb):=by
 intro pins s σ H Q I h
 refine BoolOp_or (ay (ha pins s σ H _ I h) fun v s1 ⟨x,H1,I1,r1,q1⟩=>?_)
 obtain ⟨c,rfl,q1⟩:=q1
 cases r1
 refine wpAny_truthy_bool ?_
 cases c with
 |false=>exact hb pins s1 σ H1 Q I1 q1
 |true=>exact ⟨.bl true,H1,I1,rfl,q1⟩
theorem XS (ha:PE X a ta):PE X (.UnaryOp .Not a pos) (MP ta):=by
 intro pins s σ H Q I h
 refine UnaryOp_ (ay (ha pins s σ H _ I h) fun v s1 ⟨x,H1,I1,r1,q1⟩=>?_)
 obtain ⟨c,rfl,q1⟩:=q1
 cases r1
 exact not_of (wpAny_truthy_bool ⟨.bl (!c),H1,I1,rfl,q1⟩)
def xx (t:TT)(ta tb:TE):TE:=fun σ H Q=>t σ H fun c H1=>if c=true then ta σ H1 Q else tb σ H1 Q
theorem Ay {c:Expr}(hc:PT X c tA)(ha:PE X a ta)(hb:PE X b tb):PE X (.IfExp c a b pos) (xx tA ta tb):=by
 intro pins s σ H Q I h
 refine wpAny_IfExp (ay (hc pins s σ H _ I h) fun d s1 ⟨H1,I1,q1⟩=>?_)
 cases d with
 |true=>exact ha pins s1 σ H1 Q I1 q1
 |false=>exact hb pins s1 σ H1 Q I1 q1
end
def aH (K:PySem.W.Frag)(H:Hp)(a:Addr)(xs:List V):Prop :=
 Rd H a (.lst xs) \/
  ∃ (o:Obj) (its:Array Value) (n:Nat),K.lookup a=some o/\o.cls=.type "list" /\ o.dict=none/\o.data=.seq its n/\its.size<=sizeLine/\Vals xs its.toList
def cM (K:PySem.W.Frag)(H:Hp)(a:Addr)(xs:List V):Prop :=
 Rd H a (.tup xs) \/
  ∃ (o:Obj) (its:Array Value) (n:Nat),K.lookup a=some o/\o.cls=.type "tuple" /\ o.data=.seq its n/\its.size<=sizeLine/\Vals xs its.toList
def ZT:Value->Option V
 | .none=>some .aS
 | .bool b=>some (.bl b)
 | .int i _=>some (.int i)
 | .str x _=>some (.str x)
 | .bytes b _=>some (.jc b)
 | .float b _=>some (.nP b)
 | .ref a=>some (.ref a)
 | .type n=>some (.ty n)
 |_=>none
theorem RelV.abs {x:V}{u:Value}(r:RelV x u):ZT u=some x:=by
 cases x with
 |aS=>cases r;rfl
 |bl _=>cases r;rfl
 |int _=>obtain ⟨t,rfl⟩:=r;rfl
 |str _=>obtain ⟨t,rfl⟩:=r;rfl
 |jc _=>obtain ⟨t,rfl⟩:=r;rfl
 |nP _=>obtain ⟨t,rfl⟩:=r;rfl
 |ref _=>cases r;rfl
 |ty _=>cases r;rfl
theorem RelV.inj {x y:V}{u:Value}(r:RelV x u)(q:RelV y u):x=y:=Option.some.inj (r.abs.symm.trans q.abs)
theorem Vals.inj:∀ {xs ys:List V} {us:List Value},Vals xs us->Vals ys us->xs=ys
 |_,_,_,.nil,.nil=>rfl
 |_,_,_,.cons r t,.cons r' t'=>by rw [r.inj r',Vals.inj t t']
section
variable {X:Cx}{pins:List (Addr×Obj)}{σ:St}{H:Hp}{s:Shared}{a:Addr}{xs ys:List V}
theorem aH.of {K:PySem.W.Frag}(h:H a=some (.lst xs)):aH K H a xs:=.inl (.inl h)
theorem cM.of {K:PySem.W.Frag}(h:H a=some (.tup xs)):cM K H a xs:=.inl (.inl h)
theorem Inv.list (I:Inv X pins σ H s)(h:aH X.K H a xs):∃ its:List Value,Vals xs its/\PlainL s.heap a its.toArray/\xs.length<=sizeLine:=by
 rcases h with h | ⟨o,its,n,hk,hc,hd,hs,hz,r⟩
 ·obtain ⟨z,its,n,r,e⟩:=h.ok I.av
  exact ⟨its,r,⟨_,n,e,rfl,rfl,rfl⟩,z⟩
 ·refine ⟨its.toList,r,⟨o,n,I.cU a o hk,hc,hd,by simpa using hs⟩,?_⟩
  have e:=r.length
  simp only [Array.length_toList] at e
  omega
theorem Inv.tuple (I:Inv X pins σ H s)(h:cM X.K H a xs):∃ its:List Value,Vals xs its/\IsTup s.heap a its.toArray/\xs.length<=sizeLine:=by
 rcases h with h | ⟨o,its,n,hk,hc,hs,hz,r⟩
 ·obtain ⟨z,its,r,p⟩:=h.ok I.av
  exact ⟨its,r,p,z⟩
 ·refine ⟨its.toList,r,⟨o,I.cU a o hk,hc,n,by simpa using hs⟩,?_⟩
  have e:=r.length
  simp only [Array.length_toList] at e
  omega
theorem Inv.Jx (I:Inv X pins σ H s)(h:aH X.K H a xs)(h':aH X.K H a ys):xs=ys:=by
 obtain ⟨its,r,⟨o,n,e,_,_,d⟩,_⟩:=I.list h
 obtain ⟨its',r',⟨o',n',e',_,_,d'⟩,_⟩:=I.list h'
 rw [e] at e';cases e'
 rw [d] at d'
 injection d' with d1 _
 have:its=its':=by simpa using congrArg Array.toList d1
 subst this
 exact r.inj r'
theorem Inv.T8 (I:Inv X pins σ H s)(h:cM X.K H a xs)(h':cM X.K H a ys):xs=ys:=by
 obtain ⟨its,r,⟨o,e,_,n,d⟩,_⟩:=I.tuple h
 obtain ⟨its',r',⟨o',e',_,n',d'⟩,_⟩:=I.tuple h'
 rw [e] at e';cases e'
 rw [d] at d'
 injection d' with d1 _
 have:its=its':=by simpa using congrArg Array.toList d1
 subst this
 exact r.inj r'
end
abbrev Cx.fD (X:Cx)(E:Value->Shared->Prop):Cx:={ X with xe:=E }
abbrev Cx.e8 (X:Cx):Cx:=X.fD fun _ _=>False
theorem Cx.Ok.fD {X:Cx}(ok:X.Ok)(E:Value->Shared->Prop):(X.fD E).Ok :=
 ⟨ok.mod,ok.kind,ok.glob,ok.blt,ok.above,ok.inj,ok.has,ok.kn,ok.hd,ok.frames,ok.jd,ok.nS,ok.bs,ok.iE,ok.ke,ok.kM,ok.eA,ok.gQ⟩
theorem Cx.Ok.hZ {X:Cx}{E:Value->Shared->Prop}(ok:(X.fD E).Ok):X.Ok :=
 ⟨ok.mod,ok.kind,ok.glob,ok.blt,ok.above,ok.inj,ok.has,ok.kn,ok.hd,ok.frames,ok.jd,ok.nS,ok.bs,ok.iE,ok.ke,ok.kM,ok.eA,ok.gQ⟩
section
variable {X:Cx}{pins:List (Addr×Obj)}{σ:St}{H:Hp}{s:Shared}{E:Value->Shared->Prop}
theorem Inv.fD (I:Inv X pins σ H s)(E:Value->Shared->Prop):Inv (X.fD E) pins σ H s:=⟨I.ok.fD E,I.os,I.bare,I.base,I.loc,I.cell,I.free,I.fA,I.pin,I.av,I.len⟩
theorem Inv.hZ (I:Inv (X.fD E) pins σ H s):Inv X pins σ H s:=⟨I.ok.hZ,I.os,I.bare,I.base,I.loc,I.cell,I.free,I.fA,I.pin,I.av,I.len⟩
theorem SP.hZ {D:Ends}{f:Flow}{s':Shared}(h:SP (X.fD E) pins D f s'):SP X pins D f s':=by
 cases f with
 |next=>obtain ⟨az,H',I,q⟩:=h;exact ⟨az,H',I.hZ,q⟩
 |brk=>obtain ⟨az,H',I,q⟩:=h;exact ⟨az,H',I.hZ,q⟩
 |cont=>obtain ⟨az,H',I,q⟩:=h;exact ⟨az,H',I.hZ,q⟩
 |ret u=>obtain ⟨v,az,H',I,r,q⟩:=h;exact ⟨v,az,H',I.hZ,r,q⟩
theorem PT.e8 {e:Expr}{t:TT}(h:PT X.e8 e t):PT X e t:=fun pins s σ H Q I hw =>
 wpAny_mono (h pins s σ H Q (I.fD _) hw) (fun _ _ ⟨H',I',q⟩=>⟨H',I'.hZ,q⟩) fun _ _ z=>False.elim z
theorem cL.e8 {st:List Stmt}{t:TS}(h:cL X.e8 st t):cL X st t:=fun pins s σ H D I hw =>
 wpAny_mono (h pins s σ H D (I.fD _) hw) (fun _ _ q=>q.hZ) fun _ _ z=>False.elim z
end
section
variable {X:Cx}{st:Stmt}{rest:List Stmt}{t u:TS}{e:Expr}{te:TE}{pos:Pos}
def MR:TS:=fun D σ H=>D.nx σ H
def dU (t u:TS):TS:=fun D σ H=>t { D with nx:=u D } σ H
theorem VW:cL X [] MR:=fun _ _ σ H _ I h=>wpAny_execs_nil ⟨σ,H,I,h⟩
theorem fm (h1:PS X st t)(h2:cL X rest u):cL X (st::rest) (dU t u):=by
 intro pins s σ H D I h
 refine wpAny_execs_cons (ay (h1 pins s σ H { D with nx:=u D } I h) fun f s1 q=>?_)
 cases f with
 |next =>
  obtain ⟨az,H',I',q⟩:=q
  exact h2 pins s1 az H' D I' q
 |ret v=>exact q
 |brk=>exact q
 |cont=>exact q
theorem jT (h1:PS X st t):cL X [st] t:=by
 intro pins s σ H D I h
 refine wpAny_execs_cons (ay (h1 pins s σ H D I h) fun f s1 q=>?_)
 cases f with
 |next=>exact wpAny_execs_nil q
 |ret v=>exact q
 |brk=>exact q
 |cont=>exact q
theorem Inv.quiet {pins:List (Addr×Obj)}{σ:St}{H:Hp}{s:Shared}(I:Inv X pins σ H s):interactive X.env=false:=by simp [interactive,I.ok.kind]
def gL (te:TE):TS:=fun D σ H=>te σ H fun _ H1=>D.nx σ H1
theorem lQ (he:PE X e te)(hs:swapsWith e none pos.line X.env=pure false:=by rfl):PS X (.Expr e pos) (gL te):=by
 intro pins s σ H D I h
 exact wpAny_Expr_any (ay (he pins s σ H _ I h) fun v s1 ⟨x,H1,I1,r1,q1⟩=>⟨σ,H1,I1,q1⟩) I.quiet hs
def kN (te:TE):TS:=fun D σ H=>te σ H D.rt
theorem lU (he:PE X e te):PS X (.Return (some e) pos) (kN te):=by
 intro pins s σ H D I h
 exact wpAny_Return_some (ay (he pins s σ H _ I h) fun v s1 ⟨x,H1,I1,r1,q1⟩=>⟨x,σ,H1,I1,r1,q1⟩)
def nH (c:TT)(t u:TS):TS:=fun D σ H=>c σ H fun b H1=>if b=true then t D σ H1 else u D σ H1
theorem sQ {c:Expr}{a b:List Stmt}{tc:TT}(hc:PT X c tc)(ha:cL X a t)(hb:cL X b u):PS X (.If c a b pos) (nH tc t u):=by
 intro pins s σ H D I h
 refine wpAny_If (ay (hc pins s σ H _ I h) fun d s1 ⟨H1,I1,q1⟩=>?_)
 cases d with
 |true=>exact ha pins s1 σ H1 D I1 q1
 |false=>exact hb pins s1 σ H1 D I1 q1
def fO:TS:=fun _ _ _=>False
theorem jh {bA:List Stmt}:cL X bA fO:=fun _ _ _ _ _ _ h=>h.elim
end
abbrev TG:=V->St->Hp->(St->Hp->Prop)->Prop
abbrev nT:=List V->St->Hp->(St->Hp->Prop)->Prop
def PG (X:Cx)(target:Expr)(t:TG):Prop :=
 ∀ (pins:List (Addr×Obj)) (s:Shared) (σ:St) (H:Hp) (v:V) (u:Value) (Q:St->Hp->Prop),Inv X pins σ H s->RelV v u->t v σ H Q ->
  wpAny (model X.prog X.w) X.A (assign target X.env u) (fun _ s'=>∃ az H',Inv X pins az H' s'/\Q az H') X.xe s
def xA (X:Cx)(ts:List Expr)(t:nT):Prop :=
 ∀ (pins:List (Addr×Obj)) (s:Shared) (σ:St) (H:Hp) (vs:List V) (us:List Value) (Q:St->Hp->Prop),Inv X pins σ H s->Vals vs us->t vs σ H Q ->
  wpAny (model X.prog X.w) X.A (assignInOrder ((assignEach ts X.env).map (·.2)) us) (fun _ s'=>∃ az H',Inv X pins az H' s'/\Q az H') X.xe s
abbrev Dg:=V->V->V->Hp->(Hp->Prop)->Prop
def NV (X:Cx)(t:Dg):Prop :=
 ∀ (pins:List (Addr×Obj)) (s:Shared) (σ:St) (H:Hp) (o i v:V) (ov iv u:Value) (Q:Hp->Prop),Inv X pins σ H s->RelV o ov->RelV i iv->RelV v u->t o i v H Q ->
  wpAny (model X.prog X.w) X.A (setItem ov iv u) (fun _ s'=>∃ H',Inv X pins σ H' s'/\Q H') X.xe s
section
variable {X:Cx}{pos:Pos}
def cZ (i:Nat):TG:=fun v σ H Q=>Q (σ.set i (some v)) H
theorem jU {i:Nat}{x:Str}(hN:X.N.Nodup)(hi:X.N[i]?=some x)(hx:Loc X.env.scope x)(hf:X.fn x=true\/X.env.scope.names.lookup x=some .local:=by first | exact .inl rfl | exact .inr rfl | assumption):PG X (.Name x pos) (cZ i):=by
 intro pins s σ H v u Q I r h
 exact wpAny_assign_Name (Ax I hN hi hx r (fun s' I'=>⟨_,H,I',h⟩) hf)
def Dh:nT:=fun vs σ H Q=>vs=[]/\Q σ H
def p9 (t:TG)(u:nT):nT:=fun vs σ H Q=>∃ v r,vs=v::r/\t v σ H fun az H'=>u r az H' Q
theorem Ks:xA X [] Dh:=by
 intro pins s σ H vs us Q I r h
 obtain ⟨e,h⟩:=h
 subst e
 cases r
 exact assignInOrder_nil ⟨σ,H,I,h⟩
theorem rS {e:Expr}{es:List Expr}{t:TG}{u:nT}(h1:PG X e t)(h2:xA X es u)(hs:(assignEach (e::es) X.env).map (·.2)=assign e X.env::(assignEach es X.env).map (·.2):=by rfl):xA X (e::es) (p9 t u):=by
 intro pins s σ H vs us Q I r h
 obtain ⟨v,vr,e1,h⟩:=h
 subst e1
 cases r with
 |cons r rr =>
  rw [hs]
  refine assignInOrder_cons (ay (h1 pins s σ H _ _ _ I r h) fun _ s1 ⟨aA,H1,I1,q1⟩=>?_)
  exact h2 pins s1 aA H1 _ _ Q I1 rr q1
def Di (K:PySem.W.Frag)(n:Nat)(t:nT):TG:=fun v σ H Q=>∃ a xs,v=.ref a/\cM K H a xs/\xs.length=n/\t xs σ H Q
theorem Ly {es:List Expr}{k:Nat}{t:nT}{n:Nat}(hc:X.calm=true)(h:xA X es t)(hn:(assignEach es X.env).length=n:=by rfl)(je:(assignEach es X.env).findIdx? (·.1)=none:=by rfl):PG X (.Tuple es k pos) (Di X.K n t):=by
 intro pins s σ H v u Q I r hw
 obtain ⟨a,xs,e1,hq,hl,hw⟩:=hw
 subst e1
 cases r
 obtain ⟨its,rv,ht,hz⟩:=I.tuple hq
 refine assign_Tuple_tuple (I.ok.hd hc) ht (by simp [hn,<- hl,rv.length]) je fun h' hx=>?_
 have I1:Inv X pins σ H { s with heap:=h' }:=I.kept (t':=s.toks) fun b o e=>hx b o (Nat.ne_of_lt (Heap.lt_size e)) e
 exact h pins _ σ H xs _ Q I1 (by simpa using rv) hw
def Dj (to ti:TE)(t:Dg):TG:=fun v σ H Q=>to σ H fun o H1=>ti σ H1 fun i H2=>t o i v H2 fun H3=>Q σ H3
theorem Lz {o i:Expr}{to ti:TE}{t:Dg}(ho:PE X o to)(hi:PE X i ti)(hs:NV X t)(ha:∀ v,assign (.Subscript o i pos) X.env v=(do
   let ov <- holding [v] (eval o X.env)
   let iv <- holding [v,ov] (eval i X.env)
   standAt pos
   holding [v,ov,iv] (setItem ov iv v)
   release [v,ov,iv] []):=by intro _;rfl):PG X (.Subscript o i pos) (Dj to ti t):=by
 intro pins s σ H v u Q I r h
 rw [ha]
 refine wpAny_bind (wpAny_holding (ay (ho pins s σ H _ I h) fun ov s1 ⟨x,H1,I1,r1,q1⟩=>?_))
 refine wpAny_bind (wpAny_holding (ay (hi pins s1 σ H1 _ I1 q1) fun iv s2 ⟨y,H2,I2,r2,q2⟩=>?_))
 refine wpAny_bind (wpAny_standAt (wpAny_bind (wpAny_holding (ay (hs pins s2 σ H2 x y v ov iv u _ I2 r1 r2 r q2) fun _ s3 ⟨H3,I3,q3⟩=>?_))))
 exact wpAny_release ⟨σ,H3,I3,q3⟩
def i3 (te:TE)(g:TG):TS:=fun D σ H=>te σ H fun x H1=>g x σ H1 D.nx
theorem XT {tg e:Expr}{te:TE}{g:TG}(he:PE X e te)(hg:PG X tg g)(hs:swapsWithSole [tg] e pos.line X.env=pure false:=by rfl)(hw:swappedStores [tg] e X.env=pure none:=by rfl)(h1:(assignEach [tg] X.env).map (·.2)=[assign tg X.env]:=by rfl):PS X (.Assign [tg] e pos) (i3 te g):=by
 intro pins s σ H D I h
 refine wpAny_Assign_stores (ay (he pins s σ H _ I h) fun v s1 ⟨x,H1,I1,r1,q1⟩=>?_) hs hw
 rw [h1]
 exact ay (hg pins s1 σ H1 x v _ I1 r1 q1) fun _ s2 q=>q
theorem ji {i:Nat}{x:Str}{e:Expr}{te:TE}{pos':Pos}(hN:X.N.Nodup)(hi:X.N[i]?=some x)(hx:Loc X.env.scope x)(he:PE X e te)(hs:swapsWith e (some (.Name x pos')) pos.line X.env=pure false:=by rfl)(hf:X.fn x=true\/X.env.scope.names.lookup x=some .local:=by first | exact .inl rfl | exact .inr rfl | assumption) :
  PS X (.Assign [.Name x pos'] e pos) (i3 te (cZ i)):=by
 intro pins s σ H D I h
 refine wpAny_Assign_Name (ay (he pins s σ H _ I h) fun v s1 ⟨y,H1,I1,r1,q1⟩=>?_) hs
 exact Ax I1 hN hi hx r1 (fun s2 I2=>⟨_,H1,I2,q1⟩) hf
end
section
variable {X:Cx}{pos:Pos}
def LA (c:TT)(tb:TS):TS:=fun D σ H=>∃ W:Nat->St->Hp->Prop,(∃ m,W m σ H)/\∀ m σ H,W m σ H ->
 c σ H fun b H1=>if b=true then ∃ N:St->Hp->Prop,(∀ az H',N az H'->∃ m',m'<m/\W m' az H')/\tb { D with nx:=N,ct:=N,bk:=D.nx } σ H1 else D.nx σ H1
theorem UQ {c:Expr}{body:List Stmt}{tc:TT}{tb:TS}(hp:PassesOwn (model X.prog X.w) X.A X.env X.xe)(hc:PT X c tc)(hb:cL X body tb):PS X (.While c body [] pos) (LA tc tb):=by
 intro pins s σ H D I h
 obtain ⟨W,⟨m0,w0⟩,turn⟩:=h
 refine wpAny_While (codeAny_whileLoop (fun n s'=>∃ az H',Inv X pins az H' s'/\W n az H') ?_ m0 ⟨σ,H,I,w0⟩)
 rintro n s1 ⟨aA,H1,I1,w1⟩
 refine wpAny_passesOwn hp (ay (hc pins s1 aA H1 _ I1 (turn n aA H1 w1)) fun b s2 ⟨H2,I2,q2⟩=>?_)
 cases b with
 |true =>
  obtain ⟨N,hN,q2⟩:=q2
  rw [if_pos rfl]
  refine wpAny_passesOwn hp (ay (hb pins s2 aA H2 _ I2 q2) fun f s3 q3=>?_)
  cases f with
  |next =>
   obtain ⟨jv,H3,I3,n3⟩:=q3
   obtain ⟨m',hm,w3⟩:=hN jv H3 n3
   exact ⟨m',hm,jv,H3,I3,w3⟩
  |cont =>
   obtain ⟨jv,H3,I3,n3⟩:=q3
   obtain ⟨m',hm,w3⟩:=hN jv H3 n3
   exact ⟨m',hm,jv,H3,I3,w3⟩
  |brk=>exact q3
  |ret v=>exact q3
 |false =>
  rw [if_neg Bool.false_ne_true]
  exact wpAny_execs_nil ⟨aA,H2,I2,q2⟩
end
structure It where
 go:Nat->Hp->Prop
 mH:Nat->Hp->V->Hp->Prop
 stop:Nat->Hp->Prop
def eZ (X:Cx)(pins:List (Addr×Obj))(H:Hp)(b:Addr):Prop :=
 H b=none/\b ≠ X.env.locals/\b ∉ X.fs/\(b ∈ X.ex\/X.cy.heap.objs.size<=b)/\(∀ x c,X.env.cells.lookup x=some c->c ≠ b)/\∀ p ∈ X.pn++pins,p.1 ≠ b
theorem Inv.qo {X:Cx}{pins:List (Addr×Obj)}{σ:St}{H H':Hp}{s:Shared}{b:Addr}(I:Inv X pins σ H s)(hb:s.heap.objs.size<=b)(hn:H' b=none):eZ X pins H' b:=by
 refine ⟨hn,Nat.ne_of_gt (Nat.lt_of_lt_of_le I.lt hb),I.ZQ hb,.inr (Nat.le_trans I.sz hb),fun x c e z=>?_,fun p hp z=>?_⟩
 ·obtain ⟨v,q⟩:=I.cell x c e
  exact absurd (Nat.lt_of_lt_of_le q.lt (by rw [z];exact hb)) (Nat.lt_irrefl _)
 ·exact absurd (Nat.lt_of_lt_of_le (Heap.lt_size (I.pin p hp).1) (by rw [z];exact hb)) (Nat.lt_irrefl _)
structure Turn (P:Program) (w:World) (K:PySem.W.Frag) (tg:Expr) (J:It) (fp:List Addr) (it:Addr) (tn:Nat->Heap->Prop):Prop where
 mem:it ∈ fp
 obj:∀ i h,tn i h->∀ b ∈ fp,∃ o,h.get? b=some o/\∀ v,o.data ≠ .cell v
 keep:∀ i h h',tn i h->(∀ b ∈ fp,∀ o,h.get? b=some o->h'.get? b=some o)->tn i h'
 item:∀ (X:Cx),X.prog=P->X.w=w->X.K=K->X.calm=true->∀ (i:Nat) (pins:List (Addr×Obj)) (s:Shared) (σ:St) (H:Hp) (E:Value->Shared->Prop),Inv X pins σ H s->(∀ b ∈ fp,eZ X pins H b)->tn i s.heap->J.go i H ->
  wpAny (model P w) X.A (pyNext (.ref it)) (fun r s1=>∃ u,r=some u /\
   wpAny (model P w) X.A (letOwnedTupleGo tg (.ref it) u) (fun _ s2=>∃ x H',Inv X pins σ H' s2/\RelV x u/\J.mH i H x H'/\tn (i+1) s2.heap/\∀ b ∈ fp,H' b=none) E s1) E s
 done:∀ (X:Cx),X.prog=P->X.w=w->X.K=K->X.calm=true->∀ (i:Nat) (pins:List (Addr×Obj)) (s:Shared) (σ:St) (H:Hp) (E:Value->Shared->Prop),Inv X pins σ H s->(∀ b ∈ fp,eZ X pins H b)->tn i s.heap->J.stop i H ->
  wpAny (model P w) X.A (pyNext (.ref it)) (fun r s1=>r=none/\Inv X pins σ H s1) E s
 self:∀ (A:Around) (i:Nat) (s:Shared) (Q:Value->Shared->Prop) (E:Value->Shared->Prop),tn i s.heap->Q (.ref it) s->wpAny (model P w) A (pyIter (.ref it)) Q E s
abbrev TI:=St->Hp->(It->Hp->Prop)->Prop
def Pl (X:Cx)(pins:List (Addr×Obj))(σ:St)(tg:Expr)(R:It->Hp->Prop)(nU:Value)(s2:Shared):Prop :=
 ∃ (it:Addr) (fp:List Addr) (tn:Nat->Heap->Prop) (J:It) (H':Hp),nU=.ref it/\Inv X pins σ H' s2/\Turn X.prog X.w X.K tg J fp it tn/\tn 0 s2.heap/\(∀ b ∈ fp,eZ X pins H' b)/\R J H'
def PI (X:Cx)(tg iter:Expr)(wi:TI):Prop :=
 ∀ (pins:List (Addr×Obj)) (s:Shared) (σ:St) (H:Hp) (R:It->Hp->Prop),Inv X pins σ H s->wi σ H R ->
  wpAny (model X.prog X.w) X.A (eval iter X.env) (fun v s1=>wpAny (model X.prog X.w) X.A (pyIter v) (Pl X pins σ tg R) X.xe s1) X.xe s
theorem Cz {M:Model}{A:Around}{E:Value->Shared->Prop}{s:Shared}{tg:Expr}{it:Addr}{u:Value}{o:Obj}{n:String}{vs:Array Value}{Q:Unit->Shared->Prop}(ho:s.heap.get? it=some o)(hc:o.cls=.type n)(hd:o.data=.fields vs)(hn:["enumerate", "zip", "dict_itemiterator", "dict_reverseitemiterator", "odict_iterator", "itertools.zip_longest", "itertools.pairwise"].contains n=false)(hQ:Q () s):wpAny M A (letOwnedTupleGo tg (.ref it) u) Q E s:=by
 unfold letOwnedTupleGo
 cases tg<;>first
  |exact wpAny_pure hQ
  |(cases u<;>first
    |exact wpAny_pure hQ
    |(refine wpAny_bind (wpAny_load ho ?_)
      rw [hc,hd]
      show wpAny M A (if (["enumerate", "zip", "dict_itemiterator", "dict_reverseitemiterator", "odict_iterator", "itertools.zip_longest", "itertools.pairwise"].contains n&&vs[0]?==some (rawInt _))=true then _ else _) Q E s
      rw [if_neg (by intro h;rw [hn,Bool.false_and] at h;cases h)]
      exact wpAny_pure hQ))
def mI (K:PySem.W.Frag)(a:Addr):It :=
 ⟨fun i H=>∃ xs x,aH K H a xs/\xs[i]?=some x,fun i H x H'=>H'=H/\∀ xs,aH K H a xs->xs[i]?=some x,fun i H=>∃ xs,aH K H a xs/\xs.length<=i⟩
def nV (lo:Int)(n:Nat):It:=⟨fun i _=>i<n,fun i H x H'=>H'=H/\x=.int (lo+i),fun i _=>n<=i⟩
theorem T9 {P:Program}{w:World}{K:PySem.W.Frag}{tg:Expr}(a it:Addr):Turn P w K tg (mI K a) [it] it (fun i h=>h.IsListIter it a i) where
 mem:=by simp
 obj:=fun i h st b hb=>by
  have e:b=it:=by simpa using hb
  subst e
  obtain ⟨o,e,c,d⟩:=st
  exact ⟨o,e,fun v z=>by rw [d] at z;cases z⟩
 keep:=fun i h h' st k=>st.at fun o e=>k it (by simp) o e
 item:=by
  intro X hP hw hK hc i pins s σ H E I hf st hg
  subst hP hw hK
  obtain ⟨xs,x,hq,hx⟩:=hg
  obtain ⟨its,rv,p,hz⟩:=I.list hq
  obtain ⟨u,hu,ru⟩:=rv.get hx
  obtain ⟨f0,f1,f2,f3,f4,f5⟩:=hf it (by simp)
  refine wpAny_pyNext_list_item st p.isList (x:=u) (by simpa using hu) fun h' ag sb=>?_
  have I1:Inv X pins σ H { s with heap:=h' }:=I.turned (t':=s.toks) (fun b o hb e=>(sb.2 b hb).trans e) f0 f1 f3 f4 f5
  obtain ⟨o,e,c,d⟩:=id ag
  exact ⟨u,rfl,Cz (s:={ s with heap:=h' }) e c d (by decide) ⟨x,H,I1,ru,⟨rfl,fun ys hy=>by rw [I.Jx hy hq];exact hx⟩,ag,fun b hb=>(hf b hb).1⟩⟩
 done:=by
  intro X hP hw hK hc i pins s σ H E I hf st hg
  subst hP hw hK
  obtain ⟨xs,hq,hx⟩:=hg
  obtain ⟨its,rv,p,hz⟩:=I.list hq
  obtain ⟨f0,f1,f2,f3,f4,f5⟩:=hf it (by simp)
  have hl:=rv.length
  exact wpAny_pyNext_list_end (I.ok.hd hc) st p.isList (by simp;omega) fun h' eb=>⟨rfl,I.turned (t':=s.toks) (fun b o hb e=>eb b o hb e) f0 f1 f3 f4 f5⟩
 self:=fun _ _ _ _ _ st h=>wpAny_pyIter_listiter st h
theorem To {P:Program}{w:World}{K:PySem.W.Frag}{tg:Expr}(it:Addr)(lo:Int)(n:Nat):Turn P w K tg (nV lo n) [it] it (fun i h=>IsRangeIter h it (lo+(i:Nat)*1) ((n:Int)-(i:Nat)) 1) where
 mem:=by simp
 obj:=fun i h st b hb=>by
  have e:b=it:=by simpa using hb
  subst e
  exact ⟨_,st,fun v z=>by
   have z':Data.fields _=Data.cell v:=z
   cases z'⟩
 keep:=fun i h h' st k=>k it (by simp) _ st
 item:=by
  intro X hP hw hK hc i pins s σ H E I hf st hg
  subst hP hw hK
  obtain ⟨f0,f1,f2,f3,f4,f5⟩:=hf it (by simp)
  have W:=Walks.range (prog:=X.prog) (w:=X.w) (I.ok.hd hc) it lo 1 n
  refine W.item i s _ _ hg st fun v h' tk hv ag kk=>?_
  obtain ⟨t,rfl⟩:=hv
  have I1:Inv X pins σ H { s with heap:=h',toks:=tk }:=I.turned (fun b o hb e=>kk b o (by simpa using hb) e) f0 f1 f3 f4 f5
  refine ⟨_,rfl,Cz (s:={ s with heap:=h',toks:=tk }) (n := "range_iterator") ag rfl rfl (by decide) ⟨.int (lo+i),H,I1,⟨t,?_⟩,⟨rfl,rfl⟩,ag,fun b hb=>(hf b hb).1⟩⟩
  rw [Int.mul_one]
 done:=by
  intro X hP hw hK hc i pins s σ H E I hf st hg
  subst hP hw hK
  obtain ⟨f0,f1,f2,f3,f4,f5⟩:=hf it (by simp)
  exact wpAny_pyNext_range_end (I.ok.hd hc) st (by have:n<=i:=hg;omega) fun h' eb=>⟨rfl,I.turned (t':=s.toks) (fun b o hb e=>eb b o hb e) f0 f1 f3 f4 f5⟩
 self:=fun _ _ _ _ _ st h=>wpAny_pyIter_rangeiter st h
section
variable {X:Cx}{tg:Expr}
def sR (K:PySem.W.Frag)(tl:TE):TI:=fun σ H R=>tl σ H fun x H1=>∃ a,x=.ref a/\(∃ xs,aH K H1 a xs)/\R (mI K a) H1
theorem A9 {l:Expr}{tl:TE}(hl:PE X l tl):PI X tg l (sR X.K tl):=by
 intro pins s σ H R I h
 refine ay (hl pins s σ H _ I h) fun v s1 ⟨x,H1,I1,r1,q1⟩=>?_
 obtain ⟨a,e,⟨xs,hq⟩,q⟩:=q1
 subst e
 cases r1
 obtain ⟨its,rv,p,hz⟩:=I1.list hq
 refine wpAny_pyIter_list p.isList ?_
 refine ⟨s1.heap.objs.size,[s1.heap.objs.size],_,_,H1,rfl,I1.kept (t':=s1.toks) fun b o e=>Heap.get?_push_of_some _ e,T9 a _,⟨_,Heap.get?_push_size _ rfl,rfl,rfl⟩,fun b hb=>?_,q⟩
 have e:b=s1.heap.objs.size:=by simpa using hb
 subst e
 exact I1.qo (Nat.le_refl _) (I1.av.fresh (Nat.le_refl _))
theorem UR {pins:List (Addr×Obj)}{σ:St}{H:Hp}{s:Shared}{R:It->Hp->Prop}{E:Value->Shared->Prop}{lo hi:Int}{t u v:Tok}{tk:Nat}(I:Inv X pins σ H s)(h1 : -(2 ^ 62)<=lo)(h2:lo<2 ^ 62)(h3 : -(2 ^ 62)<=hi)(h4:hi<2 ^ 62)(q:R (nV lo (hi-lo).toNat) H):wpAny (model X.prog X.w) X.A (pyIter (.ref s.heap.objs.size)) (Pl X pins σ tg R) E { s with heap:=s.heap.push { cls:=.type "range",data:=.fields #[.int lo t,.int hi u,.int 1 v] },toks:=tk }:=by
 refine wpAny_pyIter_range (IsRange.new ..) (small_one h1 h2 h3 h4) ?_
 have I1:Inv X pins σ H { s with heap:=s.heap.push { cls:=.type "range",data:=.fields #[.int lo t,.int hi u,.int 1 v] },toks:=tk }:=I.kept fun b o e=>Heap.get?_push_of_some _ e
 refine ⟨(s.heap.push { cls:=.type "range",data:=.fields #[.int lo t,.int hi u,.int 1 v] }).objs.size,[(s.heap.push { cls:=.type "range",data:=.fields #[.int lo t,.int hi u,.int 1 v] }).objs.size],_,_,H,rfl,
  I1.kept (t':=tk) fun b o e=>Heap.get?_push_of_some _ e,To _ lo (hi-lo).toNat,?_,fun b hb=>?_,q⟩
 ·have e1:lo+((0:Nat):Int)*1=lo:=by simp
  have e2:(((hi-lo).toNat:Nat):Int)-((0:Nat):Int)=Builtin.Range.rangeSize lo hi 1:=by rw [rangeSize_one];split<;>omega
  show IsRangeIter _ _ (lo+((0:Nat):Int)*1) ((((hi-lo).toNat:Nat):Int)-((0:Nat):Int)) 1
  rw [e1,e2]
  exact Heap.get?_push_size _ rfl
 ·have e:b=(s.heap.push { cls:=.type "range",data:=.fields #[.int lo t,.int hi u,.int 1 v] }).objs.size:=by simpa using hb
  subst e
  exact I1.qo (Nat.le_refl _) (I1.av.fresh (Nat.le_refl _))
def wo (ta:TA):TI:=fun σ H R=>ta σ H fun vs H1=>∃ j:Int,vs=[.int j] /\ -(2 ^ 62)<=j/\j<2 ^ 62/\R (nV 0 j.toNat) H1
theorem IV {a:Expr}{ta:TA}{p pos:Pos}(hg:Gl X "range")(hm:X.mg "range" = none)(ha:PA X [a] ta)(hs:starEach [a] X.env=[(false,eval a X.env)]:=by rfl):PI X tg (.Call (.Name "range" p) [a] [] pos) (wo ta):=by
 intro pins s σ H R I h
 refine Call_ (lS I hg hm boot_range (PyProof.Rows.callWith_type1 (ay (ha pos pins s σ H _ I h) fun us s1 ⟨vs,H1,I1,r1,q1⟩=>?_) hs rfl))
 obtain ⟨j,e,q1,q2,q⟩:=q1
 subst e
 cases r1 with
 |cons r rr =>
  cases rr
  obtain ⟨t,rfl⟩:=r
  exact call_range_1 (UR I1 (by omega) (by omega) q1 q2 (by simpa using q))
def qu (wi:TI)(g:TG)(tb:TS):TS:=fun D σ H=>wi σ H fun J H1=>∃ W:Nat->Nat->St->Hp->Prop,(∃ m,W 0 m σ H1)/\∀ i m σ H,W i m σ H ->
 (J.stop i H/\D.nx σ H)\/(J.go i H/\∃ N:St->Hp->Prop,(∀ az H',N az H'->∃ m',m'<m/\W (i+1) m' az H')/\∀ x H',J.mH i H x H'->g x σ H' fun bp H2=>tb { D with nx:=N,ct:=N,bk:=D.nx } bp H2)
def nk (fp:List Addr)(h:Heap):List (Addr×Obj):=fp.filterMap fun b=>(h.get? b).map fun o=>(b,o)
theorem lL {fp:List Addr}{h:Heap}{b:Addr}{o:Obj}(hb:b ∈ fp)(e:h.get? b=some o):(b,o) ∈ nk fp h:=List.mem_filterMap.mpr ⟨b,hb,by rw [e];rfl⟩
theorem Ua {fp:List Addr}{h:Heap}{p:Addr×Obj}(hp:p ∈ nk fp h):p.1 ∈ fp/\h.get? p.1=some p.2:=by
 obtain ⟨b,hb,e⟩:=List.mem_filterMap.mp hp
 cases q:h.get? b with
 |none=>rw [q] at e;cases e
 |some o =>
  rw [q] at e
  have e':(b,o)=p:=Option.some.inj e
  subst e'
  exact ⟨hb,q⟩
theorem Inv.pinned {pins:List (Addr×Obj)}{σ:St}{H:Hp}{s:Shared}{fp:List Addr}(I:Inv X pins σ H s)(hf:∀ b ∈ fp,eZ X pins H b)(ho:∀ b ∈ fp,∃ o,s.heap.get? b=some o/\∀ v,o.data ≠ .cell v):Inv X (pins++nk fp s.heap) σ H s :=
 I.Kq fun p hp=>(List.mem_append.mp hp).elim (fun z=>I.pin p (List.mem_append_right _ z)) fun z=>by
  obtain ⟨hb,e⟩:=Ua z
  obtain ⟨f0,f1,f2,_⟩:=hf p.1 hb
  obtain ⟨o,e',d⟩:=ho p.1 hb
  rw [e] at e';cases e'
  exact ⟨e,f0,f1,f2,d⟩
theorem Inv.pC {pins pl:List (Addr×Obj)}{σ:St}{H:Hp}{s:Shared}(I:Inv X (pins++pl) σ H s):Inv X pins σ H s:=I.Kq fun p hp=>I.pin p (List.mem_append_right _ (List.mem_append_left _ hp))
theorem BF {iter:Expr}{body:List Stmt}{wi:TI}{g:TG}{tb:TS}{pos:Pos}(hp:PassesOwn (model X.prog X.w) X.A X.env X.xe)(hc:X.calm=true)(hi:PI X tg iter wi)(hg:PG X tg g)(hb:cL X body tb)(hs:∀ x,foldedSetIterable iter X.env x=pure x:=by intro _;rfl):PS X (.For tg iter body [] pos) (qu wi g tb):=by
 intro pins s σ H D I h
 refine wpAny_For (ay (hi pins s σ H _ I h) fun v s1 h1=>ay h1 fun nU s2 h2=>?_) hs
 obtain ⟨it,fp,tn,J,H2,e,I2,T,aD,f2,W,⟨m0,w0⟩,turn⟩:=h2
 subst e
 have stat:∀ {H':Hp},(∀ b ∈ fp,H' b=none)->∀ b ∈ fp,eZ X pins H' b:=fun hn b hb=>⟨hn b hb,(f2 b hb).2⟩
 refine codeAny_forLoop_any (fun n s'=>∃ i az H',Inv X pins az H' s'/\tn i s'.heap/\(∀ b ∈ fp,H' b=none)/\W i n az H') ?_ m0 ⟨0,σ,H2,I2,aD,fun b hb=>(f2 b hb).1,w0⟩
 rintro n s3 ⟨i,jv,H3,I3,de,Pm,w3⟩
 rcases turn i n jv H3 w3 with ⟨stop,qn⟩ | ⟨go,N,hN,step⟩
 ·refine wpAny_passesOwn hp (ay (T.done X rfl rfl rfl hc i pins s3 jv H3 X.xe I3 (stat Pm) de stop) fun r s4 ⟨hr,I4⟩=>?_)
  subst hr
  exact wpAny_execs_nil ⟨jv,H3,I4,qn⟩
 ·refine wpAny_passesOwn hp (ay (T.item X rfl rfl rfl hc i pins s3 jv H3 X.xe I3 (stat Pm) de go) fun r s4 ⟨u,hr,h4⟩=>?_)
  subst hr
  refine wpAny_passesOwn hp (ay h4 fun _ s5 ⟨x,H5,I5,r5,y5,jf,kq⟩=>?_)
  have I5':=I5.pinned (stat kq) (T.obj _ _ jf)
  refine wpAny_passesOwn hp (ay (hg _ s5 jv H5 x u _ I5' r5 (step x H5 y5)) fun _ s6 ⟨σ6,H6,I6,q6⟩=>?_)
  refine wpAny_passesOwn hp (ay (hb _ s6 σ6 H6 _ I6 q6) fun f s7 q7=>?_)
  have again:∀ {jw:St} {H7:Hp},Inv X (pins++nk fp s5.heap) jw H7 s7->N jw H7->∃ m,m<n/\∃ i az H',Inv X pins az H' s7/\tn i s7.heap/\(∀ b ∈ fp,H' b=none)/\W i m az H':=fun {jw H7} I7 n7=>by
   obtain ⟨m',hm,w7⟩:=hN jw H7 n7
   refine ⟨m',hm,i+1,jw,H7,I7.pC,T.keep _ _ _ jf fun b hb o e=>(I7.pin (b,o) (List.mem_append_right _ (List.mem_append_right _ (lL hb e)))).1,fun b hb=>?_,w7⟩
   obtain ⟨o,e,d⟩:=T.obj _ _ jf b hb
   exact (I7.pin (b,o) (List.mem_append_right _ (List.mem_append_right _ (lL hb e)))).2.1
  cases f with
  |next=>obtain ⟨jw,H7,I7,n7⟩:=q7;exact again I7 n7
  |cont=>obtain ⟨jw,H7,I7,n7⟩:=q7;exact again I7 n7
  |brk=>obtain ⟨jw,H7,I7,q7⟩:=q7;exact ⟨jw,H7,I7.pC,q7⟩
  |ret v=>obtain ⟨x7,jw,H7,I7,r7,q7⟩:=q7;exact ⟨x7,jw,H7,I7.pC,r7,q7⟩
end
theorem UT {K:PySem.W.Frag}{a:Addr}{xs:List V}{g:TG}{tb:TS}{D:Ends}{σ:St}{H:Hp}(Pv:Nat->St->Hp->Prop)(h0:Pv 0 σ H)(hl:∀ i σ H,i<=xs.length->Pv i σ H->aH K H a xs)(hs:∀ i x σ H,xs[i]?=some x->Pv i σ H->g x σ H fun bp H2=>tb { D with nx:=Pv (i+1),ct:=Pv (i+1),bk:=D.nx } bp H2)(hd:∀ σ H,Pv xs.length σ H->D.nx σ H) :
  ∃ W:Nat->Nat->St->Hp->Prop,(∃ m,W 0 m σ H)/\∀ i m σ H,W i m σ H ->
   ((mI K a).stop i H/\D.nx σ H)\/((mI K a).go i H/\∃ N:St->Hp->Prop,(∀ az H',N az H'->∃ m',m'<m/\W (i+1) m' az H')/\∀ x H',(mI K a).mH i H x H'->g x σ H' fun bp H2=>tb { D with nx:=N,ct:=N,bk:=D.nx } bp H2):=by
 refine ⟨fun i m σ H=>m=xs.length-i/\i<=xs.length/\Pv i σ H,⟨xs.length,by simp,Nat.zero_le _,h0⟩,?_⟩
 rintro i m σ H ⟨rfl,hi,p⟩
 have q:=hl i σ H hi p
 by_cases aZ:i<xs.length
 ·refine .inr ⟨⟨xs,xs[i],q,by simp [aZ]⟩,Pv (i+1),fun az H' p'=>⟨xs.length-(i+1),by omega,rfl,aZ,p'⟩,fun x H' y=>?_⟩
  obtain ⟨e,y⟩:=y
  subst e
  exact hs i x σ _ (y xs q) p
 ·have e:i=xs.length:=by omega
  subst e
  exact .inl ⟨⟨xs,q,Nat.le_refl _⟩,hd σ H p⟩
theorem Ub {lo:Int}{n:Nat}{g:TG}{tb:TS}{D:Ends}{σ:St}{H:Hp}(Pv:Nat->St->Hp->Prop)(h0:Pv 0 σ H)(hs:∀ i σ H,i<n->Pv i σ H->g (.int (lo+i)) σ H fun bp H2=>tb { D with nx:=Pv (i+1),ct:=Pv (i+1),bk:=D.nx } bp H2)(hd:∀ σ H,Pv n σ H->D.nx σ H) :
  ∃ W:Nat->Nat->St->Hp->Prop,(∃ m,W 0 m σ H)/\∀ i m σ H,W i m σ H ->
   ((nV lo n).stop i H/\D.nx σ H)\/((nV lo n).go i H/\∃ N:St->Hp->Prop,(∀ az H',N az H'->∃ m',m'<m/\W (i+1) m' az H')/\∀ x H',(nV lo n).mH i H x H'->g x σ H' fun bp H2=>tb { D with nx:=N,ct:=N,bk:=D.nx } bp H2):=by
 refine ⟨fun i m σ H=>m=n-i/\i<=n/\Pv i σ H,⟨n,by simp,Nat.zero_le _,h0⟩,?_⟩
 rintro i m σ H ⟨rfl,hi,p⟩
 by_cases aZ:i<n
 ·refine .inr ⟨aZ,Pv (i+1),fun az H' p'=>⟨n-(i+1),by omega,rfl,aZ,p'⟩,fun x H' y=>?_⟩
  obtain ⟨e,y⟩:=y
  subst e y
  exact hs i σ _ aZ p
 ·have e:i=n:=by omega
  subst e
  exact .inl ⟨Nat.le_refl _,hd σ H p⟩
abbrev R2:=V->V->Hp->VK->Prop
def cV (X:Cx)(f:Value->Value->Sem Value)(r:R2):Prop :=
 ∀ (pins:List (Addr×Obj)) (s:Shared) (σ:St) (H:Hp) (x y:V) (v u:Value) (Q:VK),Inv X pins σ H s->RelV x v->RelV y u->r x y H Q ->
  wpAny (model X.prog X.w) X.A (f v u) (EP X pins σ Q) X.xe s
def fB (X:Cx)(f:Value)(r:List V->Hp->VK->Prop):Prop :=
 ∀ (pins:List (Addr×Obj)) (s:Shared) (σ:St) (H:Hp) (xs:List V) (us:List Value) (Q:VK),Inv X pins σ H s->Vals xs us->r xs H Q ->
  wpAny (model X.prog X.w) X.A (call f us) (EP X pins σ Q) X.xe s
def iF (r:R2)(ta tb:TE):TE:=fun σ H Q=>ta σ H fun x H1=>tb σ H1 fun y H2=>r x y H2 Q
def rI (C:Int->Int->Prop)(g:Int->Int->V):R2:=fun x y H Q=>∃ i j,x=.int i/\y=.int j/\C i j/\Q (g i j) H
def mJ (g:Int->Int->V):R2:=fun x y H Q=>∃ i j,x=.int i/\y=.int j/\Q (g i j) H
section
variable {X:Cx}{a b c:Expr}{ta tb tc:TE}{pos:Pos}
theorem Dk (ha:PE X a ta)(hb:PE X b tb){pins:List (Addr×Obj)}{s:Shared}{σ:St}{H:Hp}{R:V->V->Hp->Prop}(I:Inv X pins σ H s)(h:ta σ H fun x H1=>tb σ H1 fun y H2=>R x y H2){Q:Value->Shared->Prop}{f:Value->Value->Sem Value}(hf:∀ v u s2 x y H2,Inv X pins σ H2 s2->RelV x v->RelV y u->R x y H2->wpAny (model X.prog X.w) X.A (f v u) Q X.xe s2) :
  wpAny (model X.prog X.w) X.A (eval a X.env) (fun v bt=>wpAny (model X.prog X.w) X.A (eval b X.env) (fun u kK=>wpAny (model X.prog X.w) X.A (f v u) Q X.xe kK) X.xe bt) X.xe s:=by
 refine ay (ha pins s σ H _ I h) fun v s1 ⟨x,H1,I1,r1,q1⟩=>?_
 refine ay (hb pins s1 σ H1 _ I1 q1) fun u s2 ⟨y,H2,I2,r2,q2⟩=>?_
 exact hf v u s2 x y H2 I2 r1 r2 q2
theorem sS {op:Operator}{r:R2}(ho:cV X (binaryOp op) r)(ha:PE X a ta)(hb:PE X b tb):PE X (.BinOp a op b pos) (iF r ta tb):=by
 intro pins s σ H Q I h
 exact wpAny_BinOp (Dk ha hb I h fun v u s2 x y H2 I2 rx ry q=>ho pins s2 σ H2 x y v u Q I2 rx ry q)
theorem D2 {f:Value->Value->Sem Value}{C:Int->Int->Prop}{g:Int->Int->Int}(rule:∀ (i j:Int) (t u:Tok) (s:Shared) (Q:Value->Shared->Prop) (E:Value->Shared->Prop),C i j->Q (.int (g i j) s.toks) { s with toks:=s.toks+1 }->wpAny (model X.prog X.w) X.A (f (.int i t) (.int j u)) Q E s) :
  cV X f (rI C fun i j=>.int (g i j)):=by
 intro pins s σ H x y v u Q I rx ry h
 obtain ⟨i,j,rfl,rfl,hc,q⟩:=h
 obtain ⟨t,rfl⟩:=rx
 obtain ⟨t',rfl⟩:=ry
 exact rule i j t t' s _ _ hc ⟨.int (g i j),H,I.tok _,⟨_,rfl⟩,q⟩
theorem NW {f:Value->Value->Sem Value}{g:Int->Int->Int}(rule:∀ (i j:Int) (t u:Tok) (s:Shared) (Q:Value->Shared->Prop) (E:Value->Shared->Prop),Q (.int (g i j) s.toks) { s with toks:=s.toks+1 }->wpAny (model X.prog X.w) X.A (f (.int i t) (.int j u)) Q E s) :
  cV X f (mJ fun i j=>.int (g i j)):=by
 intro pins s σ H x y v u Q I rx ry h
 obtain ⟨i,j,rfl,rfl,q⟩:=h
 obtain ⟨t,rfl⟩:=rx
 obtain ⟨t',rfl⟩:=ry
 exact rule i j t t' s _ _ ⟨.int (g i j),H,I.tok _,⟨_,rfl⟩,q⟩
theorem Dm {f:Value->Value->Sem Value}{g:Int->Int->Bool}(rule:∀ (i j:Int) (t u:Tok) (s:Shared) (Q:Value->Shared->Prop) (E:Value->Shared->Prop),Q (.bool (g i j)) s->wpAny (model X.prog X.w) X.A (f (.int i t) (.int j u)) Q E s) :
  cV X f (mJ fun i j=>.bl (g i j)):=by
 intro pins s σ H x y v u Q I rx ry h
 obtain ⟨i,j,rfl,rfl,q⟩:=h
 obtain ⟨t,rfl⟩:=rx
 obtain ⟨t',rfl⟩:=ry
 exact rule i j t t' s _ _ ⟨.bl (g i j),H,I,rfl,q⟩
theorem LC:cV X (binaryOp .Add) (mJ fun i j=>.int (i+j)):=NW fun _ _ _ _ _ _ _ q=>add_int q
theorem XU:cV X (binaryOp .Sub) (mJ fun i j=>.int (i-j)):=NW fun _ _ _ _ _ _ _ q=>sub_int q
theorem XW:cV X (binaryOp .Mod) (rI (fun _ j=>0<j) fun i j=>.int (i % j)):=D2 fun i j _ _ _ _ _ hc q=>by
 have h1:(0:Int)<j:=hc
 exact mod_int' (by omega) (by rw [Int.fmod_eq_emod_of_nonneg i (by omega)];exact q)
end
def Dn:V->V->Bool
 | .aS,.aS=>true | .aS,.int _=>true | .int _,.aS=>true | .aS,.bl _=>true | .bl _,.aS=>true | .aS,.str _=>true | .str _,.aS=>true
 | .int _,.int _=>true | .bl _,.bl _=>true | .str _,.str _=>true | .jc _,.jc _=>true
 | .int _,.str _=>true | .str _,.int _=>true | .bl _,.str _=>true | .str _,.bl _=>true
 |_,_=>false
def rEq:R2:=fun x y H Q=>Dn x y=true/\Q (.bl (decide (x=y))) H
def rNe:R2:=fun x y H Q=>Dn x y=true/\Q (.bl (!decide (x=y))) H
theorem Kt {i j:Int}:decide (V.int i=V.int j)=(i==j):=by
 rw [Bool.eq_iff_iff]
 simp
theorem LD {i j:Bool}:decide (V.bl i=V.bl j)=(i==j):=by
 rw [Bool.eq_iff_iff]
 simp
theorem Ku {i j:Str}:decide (V.str i=V.str j)=(i==j):=by
 rw [Bool.eq_iff_iff]
 simp
theorem Kw {i j:Array UInt8}:decide (V.jc i=V.jc j)=(i.toList==j.toList):=by
 rw [Bool.eq_iff_iff]
 cases i
 cases j
 simp
section
variable {X:Cx}{a b c:Expr}{ta tb tc:TE}{pos:Pos}
theorem cq {pins:List (Addr×Obj)}{σ:St}{H:Hp}{s:Shared}{Q:VK}{k k':Bool}(I:Inv X pins σ H s)(q:Q (.bl k) H)(e:k=k'):EP X pins σ Q (.bool k') s:=by
 subst e
 exact ⟨.bl k,H,I,rfl,q⟩
theorem MS:cV X (compareOp .Eq) rEq:=by
 intro pins s σ H x y v u Q I rx ry h
 obtain ⟨hs,q⟩:=h
 cases x with
 |aS =>
  cases rx
  cases y with
  |aS=>cases ry;exact PySem.EqNone.eq_none_none (cq I q (by simp))
  |bl j=>cases ry;exact PySem.EqNone.eq_none_bool (cq I q (by simp))
  |int j=>obtain ⟨t',rfl⟩:=ry;exact PySem.EqNone.eq_none_int (cq I q (by simp))
  |str j=>obtain ⟨t',rfl⟩:=ry;exact PySem.EqNone.eq_none_str (cq I q (by simp))
  |_=>exact absurd (show false=true from hs) Bool.false_ne_true
 |bl i =>
  cases rx
  cases y with
  |aS=>cases ry;exact PySem.EqNone.eq_bool_none (cq I q (by simp))
  |bl j=>cases ry;exact eq_bool (cq I q LD)
  |str j=>obtain ⟨t',rfl⟩:=ry;exact PySem.EqMixed.eq_bool_str (cq I q (by simp))
  |_=>exact absurd (show false=true from hs) Bool.false_ne_true
 |int i =>
  obtain ⟨t,rfl⟩:=rx
  cases y with
  |aS=>cases ry;exact PySem.EqNone.eq_int_none (cq I q (by simp))
  |int j=>obtain ⟨t',rfl⟩:=ry;exact eq_int (cq I q Kt)
  |str j=>obtain ⟨t',rfl⟩:=ry;exact PySem.EqMixed.eq_int_str (cq I q (by simp))
  |_=>exact absurd (show false=true from hs) Bool.false_ne_true
 |str i =>
  obtain ⟨t,rfl⟩:=rx
  cases y with
  |aS=>cases ry;exact PySem.EqNone.eq_str_none (cq I q (by simp))
  |bl j=>cases ry;exact PySem.EqMixed.eq_str_bool (cq I q (by simp))
  |int j=>obtain ⟨t',rfl⟩:=ry;exact PySem.EqMixed.eq_str_int (cq I q (by simp))
  |str j=>obtain ⟨t',rfl⟩:=ry;exact eq_str (cq I q Ku)
  |_=>exact absurd (show false=true from hs) Bool.false_ne_true
 |jc i =>
  obtain ⟨t,rfl⟩:=rx
  cases y with
  |jc j=>obtain ⟨t',rfl⟩:=ry;exact PySem.W.eq_bytes (cq I q Kw)
  |_=>exact absurd (show false=true from hs) Bool.false_ne_true
 |_=>cases y<;>exact absurd (show false=true from hs) Bool.false_ne_true
theorem Za:cV X (compareOp .NotEq) rNe:=by
 intro pins s σ H x y v u Q I rx ry h
 obtain ⟨hs,q⟩:=h
 cases x with
 |aS =>
  cases rx
  cases y with
  |aS=>cases ry;exact PySem.EqNone.ne_none_none (cq I q (by simp))
  |bl j=>cases ry;exact PySem.EqNone.ne_none_bool (cq I q (by simp))
  |int j=>obtain ⟨t',rfl⟩:=ry;exact PySem.EqNone.ne_none_int (cq I q (by simp))
  |str j=>obtain ⟨t',rfl⟩:=ry;exact PySem.EqNone.ne_none_str (cq I q (by simp))
  |_=>exact absurd (show false=true from hs) Bool.false_ne_true
 |bl i =>
  cases rx
  cases y with
  |aS=>cases ry;exact PySem.EqNone.ne_bool_none (cq I q (by simp))
  |bl j=>cases ry;exact ne_bool (cq I q (congrArg not LD))
  |str j=>obtain ⟨t',rfl⟩:=ry;exact PySem.EqMixed.ne_bool_str (cq I q (by simp))
  |_=>exact absurd (show false=true from hs) Bool.false_ne_true
 |int i =>
  obtain ⟨t,rfl⟩:=rx
  cases y with
  |aS=>cases ry;exact PySem.EqNone.ne_int_none (cq I q (by simp))
  |int j=>obtain ⟨t',rfl⟩:=ry;exact ne_int (cq I q (congrArg not Kt))
  |str j=>obtain ⟨t',rfl⟩:=ry;exact PySem.EqMixed.ne_int_str (cq I q (by simp))
  |_=>exact absurd (show false=true from hs) Bool.false_ne_true
 |str i =>
  obtain ⟨t,rfl⟩:=rx
  cases y with
  |aS=>cases ry;exact PySem.EqNone.ne_str_none (cq I q (by simp))
  |bl j=>cases ry;exact PySem.EqMixed.ne_str_bool (cq I q (by simp))
  |int j=>obtain ⟨t',rfl⟩:=ry;exact PySem.EqMixed.ne_str_int (cq I q (by simp))
  |str j=>obtain ⟨t',rfl⟩:=ry;exact ne_str (cq I q (congrArg not Ku))
  |_=>exact absurd (show false=true from hs) Bool.false_ne_true
 |jc i =>
  obtain ⟨t,rfl⟩:=rx
  cases y with
  |jc j=>obtain ⟨t',rfl⟩:=ry;exact PySem.W.ne_bytes (cq I q (congrArg not Kw))
  |_=>exact absurd (show false=true from hs) Bool.false_ne_true
 |_=>cases y<;>exact absurd (show false=true from hs) Bool.false_ne_true
theorem MT:cV X (compareOp .Lt) (mJ fun i j=>.bl (decide (i<j))):=Dm fun _ _ _ _ _ _ _ q=>lt_int q
theorem MU:cV X (compareOp .Gt) (mJ fun i j=>.bl (decide (j<i))):=Dm fun _ _ _ _ _ _ _ q=>gt_int q
theorem MV:cV X (compareOp .GtE) (mJ fun i j=>.bl (decide (j<=i))):=Dm fun _ _ _ _ _ _ _ q=>ge_int q
theorem iW (b:Expr){op:CmpOp}(h:op ≠ .In:=by decide)(h2:op ≠ .NotIn:=by decide):behindInMarks op b=false:=by
 have e1:(op==CmpOp.In)=false:=by cases op<;>first | rfl | exact absurd rfl h
 have e2:(op==CmpOp.NotIn)=false:=by cases op<;>first | rfl | exact absurd rfl h2
 cases b<;>simp [behindInMarks,e1,e2]
theorem VX {op:CmpOp}{r:R2}(ho:cV X (compareOp op) r)(ha:PE X a ta)(hb:PE X b tb)(hm:behindInMarks op b=false):PE X (.Compare a [op] [b] pos) (iF r ta tb):=by
 intro pins s σ H Q I h
 exact wpAny_Compare1 (Dk ha hb I h fun v u s2 x y H2 I2 rx ry q=>ho pins s2 σ H2 x y v u Q I2 rx ry q) hm
def MX (t:TE):TT:=fun σ H Q=>t σ H fun x H'=>∃ k,x=.bl k/\Q k H'
theorem VY {op:CmpOp}{r:R2}(ho:cV X (compareOp op) r)(ha:PE X a ta)(hb:PE X b tb)(hm:behindInMarks op b=false):PT X (.Compare a [op] [b] pos) (MX (iF r ta tb)):=by
 intro pins s σ H Q I h
 refine wpAny_isTrue_Compare1 (ay (ha pins s σ H _ I h) fun v s1 ⟨x,H1,I1,r1,q1⟩=>ay (hb pins s1 σ H1 _ I1 q1) fun u s2 ⟨y,H2,I2,r2,q2⟩ =>
  ay (ho pins s2 σ H2 x y v u _ I2 r1 r2 q2) fun c s3 ⟨z,H3,I3,r3,k,e,q3⟩=>?_) hm
 subst e
 cases r3
 exact wpAny_truthy_bool ⟨H3,I3,q3⟩
theorem vV:(sizeLine:Nat)<2 ^ 63:=by rw [sizeLine_eq];decide
theorem vals1 {x:V}{us:List Value}(r:Vals [x] us):∃ u,us=[u]/\RelV x u:=by
 cases r with
 |cons r1 r2=>cases r2;exact ⟨_,rfl,r1⟩
theorem UU:fB X (.builtin "abs") (fun xs H Q=>∃ i,xs=[.int i]/\Q (.int (if i<0 then -i else i)) H):=by
 intro pins s σ H xs us Q I r h
 obtain ⟨i,rfl,q⟩:=h
 obtain ⟨u,rfl,t,rfl⟩:=vals1 r
 exact call_abs_int fun u tk=>⟨.int (if i<0 then -i else i),H,I.tok _,⟨_,rfl⟩,q⟩
end
structure Dp (h:Heap) (x dx C:Addr) (mA:Str->Option Value):Prop where
 obj:h.get? x=some (PySem.W.instObj C dx)
 ns:h.Ns1 dx mA
 ne:dx ≠ x
theorem Uc {h:Heap}{dx:Addr}{mA:Str->Option Value}(n:h.Ns1 dx mA):∃ od,h.get? dx=some od/\∀ name,PySem.W.lookIn name od=some (mA name):=by
 obtain ⟨o,es,ep,ho,hd,hk,_,hm⟩:=n
 refine ⟨o,ho,fun name=>?_⟩
 have e:=hm name
 unfold nsFind findBy at e
 rw [<- Array.find?_toList] at e
 unfold PySem.W.lookIn
 rw [hd]
 dsimp only
 split
 ·rename_i y q
  rw [q] at e
  exact congrArg some e
 ·rename_i q
  rw [q] at e
  have a:es.toList.any (·.refKey)=false:=by
   rw [List.any_eq_false]
   intro y hy
   obtain ⟨z,t,Dq⟩:=hk y (Array.mem_toList_iff.mp hy)
   simp [DictEntry.refKey,Dq]
  have a':¬ es.toList.any (·.refKey)=true:=by rw [a];exact Bool.false_ne_true
  rw [if_neg a']
  exact congrArg some e
theorem Dp.look {h:Heap}{x dx C:Addr}{mA:Str->Option Value}(I:Dp h x dx C mA):∃ od,PySem.W.InstAt h x (PySem.W.instObj C dx) C (some od)/\∀ name,PySem.W.lookIn name od=some (mA name) :=
 let ⟨od,ho,hl⟩:=Uc I.ns
 ⟨od,⟨I.obj,rfl,rfl,ho⟩,hl⟩
theorem ip.some_of {v:V}{o:Option Value}(r:ip (some v) o):∃ u,o=some u/\RelV v u:=by
 cases o with
 |none=>exact (show False from r).elim
 |some u=>exact ⟨u,rfl,r⟩
section
variable {P:Program}{w:World}{H H':Hp}{h h':Heap}{a C dx:Addr}{fs fs':List (Str×V)}
theorem VZ (av:bO P w H h)(e:H a=some (.ins C dx fs)):∃ mA,Dp h a dx C mA/\(∀ f,ip (fs.lookup f) (mA f))/\PySem.Within mA (fs.map (·.1))/\fs.length<=1000/\H dx=some (.own a):=by
 obtain ⟨d,z,ne,ob,mA,n,r,q⟩:=(show bQ P w H h a (.ins C dx fs) from av a _ e)
 exact ⟨mA,⟨ob,n,ne⟩,r,q,z,d⟩
end
structure D3 (K:PySem.W.Frag) (C:Addr):Prop where
 pg:PySem.W.plainGet K C Str.empty=true
 hd:PySem.W.hasDictIn K C=true
 po:PySem.W.plainOver K C=true
 sa:PySem.W.findIn K (.ref C) "__setattr__" = some (some (.builtin "object.__setattr__"))
theorem D3.get {K:PySem.W.Frag}{C:Addr}(c:D3 K C)(f:Str):PySem.W.plainGet K C f=true:=c.pg
section
variable {X:Cx}{pins:List (Addr×Obj)}{σ:St}{H:Hp}{s:Shared}{A:Around}{E:Value->Shared->Prop}{Q:Value->Shared->Prop}{c:Value}{b:Bool}
inductive i5 (K:PySem.W.Frag) (H:Hp):V->Value->Prop where
 |aS:i5 K H .aS (.type "NoneType")
 |bl (x:Bool):i5 K H (.bl x) (.type "bool")
 |int (i:Int):i5 K H (.int i) (.type "int")
 |str (x:Str):i5 K H (.str x) (.type "str")
 |nP (x:UInt64):i5 K H (.nP x) (.type "float")
 |lst {a:Addr} {xs:List V} (e:H a=some (.lst xs)):i5 K H (.ref a) (.type "list")
 |cK {a:Addr} {o:Obj} {xs:List V} (e:H a=some (.cK o (.lst xs))):i5 K H (.ref a) (.type "list")
 |tup {a:Addr} {xs:List V} (e:H a=some (.tup xs)):i5 K H (.ref a) (.type "tuple")
 |dK {a:Addr} {aj:List (Key×V)} (e:H a=some (.dK aj)):i5 K H (.ref a) (.type "dict")
 |dT {a:Addr} {aj:List (List Key×V)} (e:H a=some (.dT aj)):i5 K H (.ref a) (.type "dict")
 |ins {a C dx:Addr} {fs:List (Str×V)} (e:H a=some (.ins C dx fs)) (cl:D3 K C) (ha:PySem.W.findIn K (.ref C) "__class__" = some (some (.builtin "object.__class__")))
   (hn:PySem.W.specialIn K (.builtin "object.__class__") "__get__" = some (some (.builtin "getset_descriptor.__get__"))) (Pn:PySem.W.takesIn K (.builtin "object.__class__")=some true)
   (hm:PySem.W.mroIn K C (.type "object")=some true):i5 K H (.ref a) (.ref C)
theorem vf {x:V}{u t:Value}(I:Inv X pins σ H s)(rx:RelV x u)(ty:i5 X.K H x t)(e:PySem.W.kitOne X.K t c=some b)(h:∀ tk,Q (.bool b) { s with toks:=tk }) :
  wpAny (model X.prog X.w) A (call (.builtin "isinstance") [u,c]) Q E s:=by
 cases ty with
 |aS=>cases (show u=Value.none from rx);exact PySem.W.kia_one PySem.W.kitx_none I.cU True.intro e (fun z=>nomatch z) h
 |bl y=>cases (show u=Value.bool y from rx);exact PySem.W.kia_one PySem.W.kitx_bool I.cU True.intro e (fun z=>nomatch z) h
 |int i=>obtain ⟨t,q⟩:=(show ∃ t,u=Value.int i t from rx);cases q;exact PySem.W.kia_one PySem.W.kitx_int I.cU True.intro e (fun z=>nomatch z) h
 |str y=>obtain ⟨t,q⟩:=(show ∃ t,u=Value.str y t from rx);cases q;exact PySem.W.kia_one PySem.W.kitx_str I.cU True.intro e (fun z=>nomatch z) h
 |nP y=>obtain ⟨t,q⟩:=(show ∃ t,u=Value.float y t from rx);cases q;exact PySem.W.kia_one PySem.W.kitx_float I.cU True.intro e (fun z=>nomatch z) h
 | @lst a xs ea =>
  cases (show u=Value.ref a from rx)
  obtain ⟨_,_,n,_,h1⟩:=(show bQ X.prog X.w H s.heap a (.lst xs) from I.av a _ ea)
  exact PySem.W.kia_one PySem.W.kitx_list I.cU ⟨_,h1,rfl⟩ e (fun z=>nomatch z) h
 | @cK a ob xs ea =>
  cases (show u=Value.ref a from rx)
  obtain ⟨_,_,_,n,_,h1⟩:=(show bQ X.prog X.w H s.heap a (.cK ob (.lst xs)) from I.av a _ ea)
  exact PySem.W.kia_one PySem.W.kitx_list I.cU ⟨_,h1,rfl⟩ e (fun z=>nomatch z) h
 | @tup a xs ea =>
  cases (show u=Value.ref a from rx)
  obtain ⟨_,_,_,p⟩:=(show bQ X.prog X.w H s.heap a (.tup xs) from I.av a _ ea)
  obtain ⟨o,h1,h2,_⟩:=p
  exact PySem.W.kia_one PySem.W.kitx_tuple I.cU ⟨o,h1,h2⟩ e (fun z=>nomatch z) h
 | @dK a aj ea =>
  cases (show u=Value.ref a from rx)
  obtain ⟨_,_,vs,_,p⟩:=(show bQ X.prog X.w H s.heap a (.dK aj) from I.av a _ ea)
  obtain ⟨o,es,ep,h1,h2,_⟩:=p
  exact PySem.W.kia_one PySem.W.kitx_dict I.cU ⟨o,h1,h2.1⟩ e (fun z=>nomatch z) h
 | @dT a aj ea =>
  cases (show u=Value.ref a from rx)
  obtain ⟨_,_,xs,_,o,es,ep,h1,h2,_⟩:=(show bQ X.prog X.w H s.heap a (.dT aj) from I.av a _ ea)
  exact PySem.W.kia_one PySem.W.kitx_dict I.cU ⟨o,h1,h2.1⟩ e (fun z=>nomatch z) h
 | @ins a C dx fs ea cl ha hn Pn hm =>
  cases (show u=Value.ref a from rx)
  obtain ⟨mA,O,_⟩:=VZ I.av ea
  obtain ⟨od,J,_⟩:=O.look
  exact PySem.W.kia_one (PySem.W.kitx_own (cl.get _) cl.hd ha hn Pn hm) I.cU J e (fun z=>nomatch z) h
end
structure cQ (k:Nat) (A:Around):Prop where
 hd:A.handled=none
 dp:A.depth+3*k+5<recursionLimit
 un:A.units+16*k+200<cLine
theorem cQ.mono {j k:Nat}{A:Around}(r:cQ k A)(h:j<=k):cQ j A:=⟨r.hd,by have:=r.dp;omega,by have:=r.un;omega⟩
theorem cQ.deeper {k:Nat}{A:Around}(r:cQ (k+1) A)(env:Env):cQ k (A.deeper env) :=
 ⟨r.hd,by have:=r.dp;show A.depth+1+3*k+5<_;omega,by have:=r.un;show A.units+3+16*k+200<_;omega⟩
theorem cQ.depth {k:Nat}{A:Around}(r:cQ k A):A.depth<recursionLimit:=by have:=r.dp;omega
theorem cQ.units {k:Nat}{A:Around}(r:cQ k A):A.units+64<cLine:=by have:=r.un;omega
def cI:TA:=fun _ H Q=>Q [] H
def bY (ta:TE)(tr:TA):TA:=fun σ H Q=>ta σ H fun x H1=>tr σ H1 fun xs H2=>Q (x::xs) H2
section
variable {X:Cx}{e:Expr}{es:List Expr}{te:TE}{t:TA}{pos:Pos}
theorem bu:PA X [] cI:=fun _ _ _ _ H Q I h=>Calls.spliced_nil ⟨[],H,I,.nil,h⟩
theorem aF (ha:PE X e te)(hr:PA X es t)(hs:starEach (e::es) X.env=(false,eval e X.env)::starEach es X.env:=by rfl):PA X (e::es) (bY te t):=by
 intro pos pins s σ H Q I h
 rw [hs]
 show wpAny _ _ (spliced ((false,eval e X.env)::backTo pos (starEach es X.env))) _ _ s
 refine Calls.spliced_cons (ay (ha pins s σ H _ I h) fun u s1 ⟨x,H1,I1,r1,q1⟩=>?_)
 exact ay (hr pos pins s1 σ H1 _ I1 q1) fun us s2 ⟨xs,H2,I2,r2,q2⟩=>⟨x::xs,H2,I2,.cons r1 r2,q2⟩
def nI (t:TA):TE:=fun σ H Q=>t σ H fun xs H1=>xs.length<=sizeLine/\∀ p,H1 p=none->Q (.ref p) (upd H1 p (.tup xs))
def NX (t:TA):TE:=fun σ H Q=>t σ H fun xs H1=>xs.length<=sizeLine/\∀ p,H1 p=none->Q (.ref p) (upd H1 p (.lst xs))
theorem vW {x1}(h:PA X es t):PE X (.Tuple es x1 pos) (nI t):=by
 intro pins s σ H Q I hq
 refine wpAny_Tuple_spliced (ay (h pos pins s σ H _ I hq) fun us s1 ⟨xs,H1,I1,r,z,q⟩=>⟨by rw [<- r.length];exact z,?_⟩)
 have hf:H1 s1.heap.objs.size=none:=I1.av.fresh (Nat.le_refl _)
 refine ⟨.ref s1.heap.objs.size,upd H1 s1.heap.objs.size (.tup xs),I1.laid (t':=s1.toks) (fun b u e=>Heap.get?_push_of_some _ e) (Nat.le_refl _) ?_,rfl,q _ hf⟩
 exact ⟨z,us,r,⟨_,Heap.get?_push_size _ rfl,rfl,_,rfl⟩⟩
theorem sJ (h:PA X es t):PE X (.List es pos) (NX t):=by
 intro pins s σ H Q I hq
 refine wpAny_List_spliced (ay (h pos pins s σ H _ I hq) fun us s1 ⟨xs,H1,I1,r,z,q⟩=>⟨by rw [<- r.length];exact z,?_⟩)
 have hf:H1 s1.heap.objs.size=none:=I1.av.fresh (Nat.le_refl _)
 refine ⟨.ref s1.heap.objs.size,upd H1 s1.heap.objs.size (.lst xs),I1.laid (t':=s1.toks) (fun b u e=>Heap.get?_push_of_some _ e) (Nat.le_refl _) ?_,rfl,q _ hf⟩
 exact ⟨z,us,0,r,Heap.get?_push_size _ rfl⟩
end
abbrev Sp:=List V->Hp->VK->XK->Prop
abbrev e9:=List Env->Hp->Shared->XK->Value->Shared->Prop
structure qv (P:Program) (w:World) (K:PySem.W.Frag) (mg:Str->Option Value) (base:Heap) (A:Around) (outer:List Env) (s:Shared) (H:Hp):Prop where
 frames:A.frames=some outer
 mod:Mod K mg base
 bs:∀ b o,base.get? b=some o->s.heap.get? b=some o/\H b=none
 iE:base.objs.size<=s.heap.objs.size
 eA:s.heap.FunFrames base outer
 gQ:∀ b ∈ bG outer,H b=none
 av:bO P w H s.heap
 bare:AllBare s.gens
def CE (outer:List Env)(P:Program)(w:World)(H:Hp)(s:Shared)(Q:VK)(u:Value)(s':Shared):Prop :=
 ∃ v H',s'.os=s.os/\AllBare s'.gens/\Un (bG outer) [] H H' s.heap s'.heap/\bO P w H' s'.heap/\RelV v u/\Q v H'
def CR (CX:e9)(outer:List Env)(P:Program)(w:World)(H:Hp)(s:Shared)(Q:VK)(E:XK)(r:Result)(s':Shared):Prop :=
 match r with
 | .ok (.ret u)=>CE outer P w H s Q u s'
 | .ok _=>False
 | .error e=>CX outer H s E e s'
structure aM (P:Program) (w:World) (K:PySem.W.Frag) (mg:Str->Option Value) (base:Heap) (CX:e9) (k:Nat) (f:Addr) (fd:FuncData) (ps:List Str) (sp:Sp):Prop where
 len:∀ vs H Q E,sp vs H Q E->vs.length=ps.length
 run:∀ (A:Around) (outer:List Env) (s:Shared) (H:Hp) (args:Args) (us:List Value) (vs:List V) (Q:VK) (E:XK),cQ k A->qv P w K mg base A outer s H->BindsTo s fd args (ps.zip us)->Vals vs us->sp vs H Q E ->
  codeAny (model P w) A (.call (.ref f) args) (CR CX outer P w H s Q E) s
theorem aM.imp {P:Program}{w:World}{K:PySem.W.Frag}{mg:Str->Option Value}{base:Heap}{CX:e9}{k:Nat}{f:Addr}{fd:FuncData}{ps:List Str}{sp Pq:Sp}(F:aM P w K mg base CX k f fd ps sp)(h:∀ vs H Q E,Pq vs H Q E->sp vs H Q E):aM P w K mg base CX k f fd ps Pq :=
 ⟨fun vs H Q E q=>F.len vs H Q E (h _ _ _ _ q),fun A outer s H args us vs Q E hr he hb hv hs=>F.run A outer s H args us vs Q E hr he hb hv (h _ _ _ _ hs)⟩
section
variable {X:Cx}{pins:List (Addr×Obj)}{σ:St}{H:Hp}{s s':Shared}
theorem Inv.Dr (I:Inv X pins σ H s):qv X.prog X.w X.K X.mg X.base X.A X.stack s H :=
 ⟨I.ok.frames,I.ok.mod,I.bs,Nat.le_trans I.ok.iE I.sz,I.stack,I.A8,I.av,I.bare⟩
theorem Inv.after {Q:VK}{u:Value}(I:Inv X pins σ H s)(h:CE X.stack X.prog X.w H s Q u s'):EP X pins σ Q u s':=by
 obtain ⟨v,H',os,bare,un,av,r,q⟩:=h
 obtain ⟨hh,g,d,t,jx⟩:=s'
 obtain rfl:jx=s.os:=os
 exact ⟨v,H',I.call (h':=hh) (g':=g) (d':=d) (t':=t) (ch:=[]) un av bare (fun b z=>absurd z (by simp)),r,q⟩
end
def kG (sp:Sp)(dvs:List V)(E:XK)(t:TA):TE:=fun σ H Q=>t σ H fun vs H1=>sp (vs++dvs) H1 Q E
def Binds (K:PySem.W.Frag)(fd:FuncData)(ps:List Str)(ds:List Value):Prop :=
 ∀ (s:Shared) (us:List Value),K.In s.heap->(us++ds).length=ps.length->BindsTo s fd ⟨us,[]⟩ (ps.zip (us++ds))
theorem Binds.all {K:PySem.W.Frag}{fd:FuncData}{ps:List Str}(h:∀ us:List Value,us.length=ps.length->bindArgs fd ⟨us,[]⟩=pure (ps.zip us)):Binds K fd ps []:=fun s us _ hl=>by
 rw [List.append_nil] at hl ⊢
 exact .of_eq (h us hl)
def Passes (CX:e9)(X:Cx)(E:XK):Prop:=∀ (pins:List (Addr×Obj)) (σ:St) (H:Hp) (s:Shared) (e:Value) (s':Shared),Inv X pins σ H s->CX X.stack H s E e s'->X.xe e s'
section
variable {X:Cx}{CX:e9}{k:Nat}{f C:Addr}{fd:FuncData}{ps:List Str}{sp:Sp}{dvs:List V}{ds:List Value}{E:XK}{x m:Str}{p pos apos:Pos}{e o:Expr}{es:List Expr}{ta:TE}{t:TA}
theorem XX {pins:List (Addr×Obj)}{σ:St}{H:Hp}{s:Shared}{Q:VK}{us:List Value}{vs:List V}(F:aM X.prog X.w X.K X.mg X.base CX k f fd ps sp)(hr:cQ k X.A)(hb:Binds X.K fd ps ds)(hd:Vals dvs ds)(hx:Passes CX X E)(I:Inv X pins σ H s)(r:Vals vs us)(h:sp (vs++dvs) H Q E):wpAny (model X.prog X.w) X.A (call (.ref f) us) (EP X pins σ Q) X.xe s:=by
 have r2:Vals (vs++dvs) (us++ds):=r.append hd
 have hl:(us++ds).length=ps.length:=by rw [<- r2.length];exact F.len _ _ _ _ h
 refine wpAny_call (codeAny_mono (F.run X.A X.stack s H ⟨us,[]⟩ (us++ds) (vs++dvs) Q E hr I.Dr (hb s us I.cU hl) r2 h) fun r s' hq=>?_)
 cases r with
 |error e=>exact hx pins σ H s e s' I hq
 |ok fl =>
  cases fl with
  |ret u=>exact I.after hq
  |next=>exact False.elim hq
  |brk=>exact False.elim hq
  |cont=>exact False.elim hq
theorem Ba (F:aM X.prog X.w X.K X.mg X.base CX k f fd ps sp)(hr:cQ k X.A)(hg:Gl X x)(hm:X.mg x=some (.ref f))(hk:PySem.W.keepIn X.K (.ref f)=true)(hb:Binds X.K fd ps ds)(hd:Vals dvs ds)(hx:Passes CX X E)(ha:PA X (e::es) t)(hdb:(x==("__debug__" : Str))=false:=by decide)(he:starEach (e::es) X.env=(false,eval e X.env)::starEach es X.env:=by rfl)(bW:(backTo pos (starEach es X.env)).any (·.1)=false:=by rfl) :
  PE X (.Call (.Name x p) (e::es) [] pos) (kG sp dvs E t):=by
 intro pins s σ H Q I h
 refine wpAny_Call_Name_kw (sd I hg hm ?_ hdb)
 refine PySem.W.callWith_K (h₀:=X.base) I.ok.mod.nR hk (ay (ha pos pins s σ H _ I h) fun us s1 ⟨vs,H1,I1,r,q⟩=>⟨I1.cU,?_⟩) he bW
 exact XX F hr hb hd hx I1 r q
end
structure bj (N P:List Str) (sc:Scope):Prop where
 kind:sc.kind=.function
 co:sc.isCoroutine=false
 gen:sc.isGenerator=false
 nd:N.Nodup
 pre:N.take P.length=P
 par:∀ x ∈ P,sc.names.lookup x=some .local\/sc.names.lookup x=some .cell
 XY:∀ y ∈ sc.names,y.2 ≠ .free
theorem IW {kindOf:Str->Option NameKind}{x:Str}:∀ {binds:List (Str×Value)} {m:Str->Option Value},(∀ v,(x,v) ∉ binds)->bindL kindOf binds m x=m x
 |[],_,_=>rfl
 |(n,v)::r,m,h=>by
  unfold bindL
  rw [IW fun w hw=>h w (List.mem_cons_of_mem _ hw)]
  split
  ·have:x ≠ n:=by rintro rfl;exact h v List.mem_cons_self
   simp [this]
  ·rfl
theorem IX {kindOf:Str->Option NameKind}{x:Str}:∀ {binds:List (Str×Value)} {m:Str->Option Value},(∀ v,(x,v) ∉ binds)->bindC kindOf binds m x=m x
 |[],_,_=>rfl
 |(n,v)::r,m,h=>by
  unfold bindC
  rw [IX fun w hw=>h w (List.mem_cons_of_mem _ hw)]
  split
  ·rfl
  ·have:x ≠ n:=by rintro rfl;exact h v List.mem_cons_self
   simp [this]
theorem IY {kindOf:Str->Option NameKind}{x:Str}{v:Value}:∀ {P:List Str} {vs:List Value} {i:Nat} {m:Str->Option Value},P.Nodup->P[i]?=some x->vs[i]?=some v->kindOf x=some .local ->
  bindL kindOf (P.zip vs) m x=some v
 |[],_,_,_,_,h,_,_=>by simp at h
 |_::_,[],_,_,_,_,h,_=>by simp at h
 |p::P,w::vs,0,m,nd,h1,h2,hk=>by
  simp at h1 h2;subst h1;subst h2
  show bindL kindOf ((p,w)::P.zip vs) m p=_
  unfold bindL
  rw [IW fun v hv=>(List.nodup_cons.mp nd).1 (List.of_mem_zip hv).1,if_pos hk]
  simp
 |p::P,w::vs,i+1,m,nd,h1,h2,hk=>by
  show bindL kindOf ((p,w)::P.zip vs) m x=_
  unfold bindL
  exact IY (i:=i) (List.nodup_cons.mp nd).2 (by simpa using h1) (by simpa using h2) hk
theorem IZ {kindOf:Str->Option NameKind}{x:Str}{v:Value}:∀ {P:List Str} {vs:List Value} {i:Nat} {m:Str->Option Value},P.Nodup->P[i]?=some x->vs[i]?=some v->kindOf x ≠ some .local ->
  bindC kindOf (P.zip vs) m x=some v
 |[],_,_,_,_,h,_,_=>by simp at h
 |_::_,[],_,_,_,_,h,_=>by simp at h
 |p::P,w::vs,0,m,nd,h1,h2,hk=>by
  simp at h1 h2;subst h1;subst h2
  show bindC kindOf ((p,w)::P.zip vs) m p=_
  unfold bindC
  rw [IX fun v hv=>(List.nodup_cons.mp nd).1 (List.of_mem_zip hv).1,if_neg hk]
  simp
 |p::P,w::vs,i+1,m,nd,h1,h2,hk=>by
  show bindC kindOf ((p,w)::P.zip vs) m x=_
  unfold bindC
  exact IZ (i:=i) (List.nodup_cons.mp nd).2 (by simpa using h1) (by simpa using h2) hk
def start (N:List Str)(vs:List V):St:=vs.map some++List.replicate (N.length-vs.length) none
def cJ (CX:e9)(P:Program)(w:World)(K:PySem.W.Frag)(mg:Str->Option Value)(base:Heap)(N:List Str)(qual:Str)(scope:Scope)(f:Addr)(cd:Value)(A:Around)(outer:List Env)(s:Shared)(H:Hp)(E:XK):Cx where
 prog:=P
 w:=w
 K:=K
 mg:=mg
 base:=base
 A:=A.deeper (envOfC qual scope s.heap.objs.size f cd)
 N:=N
 cy:=s
 tG:=H
 env:=envOfC qual scope s.heap.objs.size f cd
 outer:=outer
 stack:=envOfC qual scope s.heap.objs.size f cd::outer
 ex:=[]
 calm:=true
 fn:=fun _=>true
 pn:=[]
 xe:=fun e s'=>wpAny (model P w) (A.deeper (envOfC qual scope s.heap.objs.size f cd)) (leaving (envOfC qual scope s.heap.objs.size f cd) e) (fun _ nW=>CX outer H s E e nW) (fun e' nW=>CX outer H s E e' nW) s'
theorem Az {sc:Scope}{n:Nat}{x:Str}(h:sc.names.lookup x=some .cell):∃ c,(cellsFrom n sc.names []).lookup x=some c:=by
 have q:=PySem.W.cellsFrom_some sc.names n [] (.inl h)
 exact Option.isSome_iff_exists.mp q
theorem Ja {CX:e9}{P:Program}{w:World}{K:PySem.W.Frag}{mg:Str->Option Value}{base:Heap}{N ps:List Str}{qual:Str}{scope:Scope}{f:Addr}{cd:Value}{A:Around}{outer:List Env}{s s1:Shared}{H:Hp}{E:XK}{us:List Value}{vs:List V}(S:bj N ps scope)(hd:A.handled=none)(e0:qv P w K mg base A outer s H)(hl:vs.length=ps.length)(r:Vals vs us)(x:InCallC s s.heap.objs.size (bindL (envOfC qual scope s.heap.objs.size f cd).kindOf (ps.zip us) fun _=>none) (cellsFrom (s.heap.objs.size+1) scope.names []) (bindC (envOfC qual scope s.heap.objs.size f cd).kindOf (ps.zip us) fun _=>none) s1) :
  Inv (cJ CX P w K mg base N qual scope f cd A outer s H E) [] (start N vs) H s1:=by
 have bW:ps.length<=N.length:=by have:=congrArg List.length S.pre;rw [List.length_take] at this;omega
 obtain ⟨h1,tk,rfl,hk⟩:=x.done
 have tZ:∀ b:Addr,b ∉ (cJ CX P w K mg base N qual scope f cd A outer s H E).ex:=fun b z=>absurd (show b ∈ ([]:List Addr) from z) (by simp)
 refine ⟨⟨e0.mod,S.kind,rfl,rfl,Nat.le_refl _,fun y z c h1 h2=>?_,fun y hy=>?_,fun y c _ h=>?_,fun _=>hd,Around.frames_deeper e0.frames,.inr ⟨rfl,rfl⟩,fun b z=>absurd z (tZ b),e0.bs,e0.iE,fun b _ _=>tZ b,fun b z=>absurd z (tZ b),e0.eA,e0.gQ⟩,
  rfl,e0.bare,Un.kept hk,⟨_,x.toInCall.ns,fun i y v h1 h2 h3=>?_⟩,fun y c h=>⟨_,x.cell y c h⟩,e0.av.fresh (Nat.le_refl _),fun y c h=>?_,fun p hp=>absurd (show p ∈ ([]:List (Addr×Obj)) from hp) (by simp),e0.av.kept hk,?_⟩
 ·exact name_of_addr x.apart (PySem.mem_of_lookup h1) (PySem.mem_of_lookup h2)
 ·have hy:scope.names.lookup y=some .cell\/scope.names.lookup y=some .free:=hy
  rcases hy with hy | hy
  ·exact Az hy
  ·exact absurd rfl (S.XY _ (PySem.mem_of_lookup hy))
 ·exact Nat.le_of_lt (x.above y c (PySem.mem_of_lookup h))
 ·have hi:i<vs.length:=by
   unfold start at h2
   by_cases hi:i<vs.length
   ·exact hi
   ·rw [List.getElem?_append_right (by simpa using hi)] at h2
    rw [List.getElem?_replicate] at h2
    split at h2<;>cases h2
  have ha:vs[i]?=some v:=by
   unfold start at h2
   rw [List.getElem?_append_left (by simpa using hi),List.getElem?_map] at h2
   cases e:vs[i]? with
   |none=>rw [e] at h2;cases h2
   |some a=>rw [e] at h2;cases h2;rfl
  obtain ⟨u,hu,rv⟩:=r.get ha
  have hp:ps[i]?=some y:=by
   rw [<- S.pre,List.getElem?_take_of_lt (by omega)];exact h1
  have Pr:ps.Nodup:=by rw [<- S.pre];exact S.nd.sublist (List.take_sublist _ _)
  refine ⟨u,rv,?_⟩
  rcases S.par y (List.mem_of_getElem? hp) with k | k
  ·exact .inl ⟨k,IY Pr hp hu k⟩
  ·obtain ⟨c,e⟩:=Az (n:=s.heap.objs.size+1) k
   refine .inr ⟨.inl k,c,e,?_⟩
   have q:=x.cell y c e
   rw [IZ Pr hp hu (by show scope.names.lookup y ≠ _;rw [k];decide)] at q
   exact q
 ·exact e0.av.fresh (Nat.le_of_lt (x.above y c (PySem.mem_of_lookup h)))
 ·unfold start
  show _=N.length
  rw [List.length_append,List.length_map,List.length_replicate]
  omega
theorem MY {CX:e9}{P:Program}{w:World}{K:PySem.W.Frag}{mg:Str->Option Value}{base:Heap}{k:Nat}{f:Addr}{name qual:Str}{params:Arguments}{body:List Stmt}{scope:Scope}{dV kV doc pm aU ct oc:Value}{an od:Option Addr}{gu:Array (Option Value)}{N ps:List Str}{sp:Sp}(lk:K.lookup f=some ⟨oc,od,.func (PySem.W.fnOf name qual params body scope dV kV doc pm an aU ct),gu⟩)(eC:PySem.W.codeIn K aU qual=true)(S:bj N ps scope)(len:∀ vs H Q E,sp vs H Q E->vs.length=ps.length)(kH:∀ (A:Around) (outer:List Env) (s:Shared) (H:Hp) (vs:List V) (Q:VK) (E:XK),cQ k (A.deeper (envOfC qual scope s.heap.objs.size f aU))->sp vs H Q E ->
   ∃ t,cL (cJ CX P w K mg base N qual scope f aU A outer s H E) body t/\t { nx:=fun _ H'=>Q .aS H',rt:=Q } (start N vs) H) :
  aM P w K mg base CX (k+1) f (PySem.W.fnOf name qual params body scope dV kV doc pm an aU ct) ps sp:=by
 refine ⟨len,fun A outer s H args us vs Q E hr e0 hb r iG=>?_⟩
 have hl:=len _ _ _ _ iG
 have KX:K.In s.heap:=e0.mod.nR.keeps fun b o e=>(e0.bs b o e).1
 have lim:s.heap.NoLimit:=e0.mod.nolimit.keeps fun b o e=>(e0.bs b o e).1
 have Zb:∀ y ∈ ps.zip us,scope.names.lookup y.1=some .local\/(scope.names.lookup y.1=some .cell/\((cellsFrom (s.heap.objs.size+1) scope.names []).lookup y.1).isSome=true):=fun ⟨n,v⟩ hy=>by
  rcases S.par n (List.of_mem_zip hy).1 with q | q
  ·exact .inl q
  ·exact .inr ⟨q,PySem.W.cellsFrom_some _ _ _ (.inl q)⟩
 refine codeAny_call_function hr.depth (KX _ _ lk) rfl S.co S.gen rfl (PySem.W.codeRec_of KX eC) (hb _ _ _ _ ?_)
 refine wpAny_newFunctionEnv_cells S.kind Zb fun env he s1 x=>?_
 subst he
 refine ⟨lim.keeps x.toInCall.keep,codeAny_func ?_⟩
 obtain ⟨t,ht,hq⟩:=kH A outer s H vs Q E (hr.deeper _) iG
 have I:Inv (cJ CX P w K mg base N qual scope f aU A outer s H E) [] (start N vs) H s1:=Ja S hr.hd e0 hl r x
 refine wpAny_mono (ht [] s1 (start N vs) H _ I hq) (fun fl s' hs=>?_) fun e s' hs=>hs
 have fin:∀ {az:St} {H':Hp} {v:V} {u:Value},Inv (cJ CX P w K mg base N qual scope f aU A outer s H E) [] az H' s'->RelV v u->Q v H'->CE outer P w H s Q u s' :=
  fun {az H' v u} J rv q=>⟨v,H',J.os,J.bare,J.base,J.av,rv,q⟩
 cases fl with
 |ret u =>
  obtain ⟨v,az,H',J,rv,q⟩:=hs
  exact fin J rv q
 |next =>
  obtain ⟨az,H',J,q⟩:=hs
  exact fin (v:=V.aS) (u:=Value.none) J rfl q
 |brk =>
  obtain ⟨_,_,_,q⟩:=hs
  exact False.elim q
 |cont =>
  obtain ⟨_,_,_,q⟩:=hs
  exact False.elim q
section
variable {X:Cx}{x:Str}{p pos:Pos}{e:Expr}{es:List Expr}{t:TA}{id T:String}{r:List V->Hp->VK->Prop}
def jy (r:List V->Hp->VK->Prop)(t:TA):TE:=fun σ H Q=>t σ H fun vs H1=>r vs H1 Q
theorem d8 (hc:fB X (.builtin id) r)(hg:Gl X x)(hm:X.mg x=none)(hv:bootBuiltins x=some (.builtin id))(ha:PA X (e::es) t)(hn:x ≠ "__name__" := by decide)(hdb:(x==("__debug__" : Str))=false:=by decide)(he:starEach (e::es) X.env=(false,eval e X.env)::starEach es X.env:=by rfl)(bW:(backTo pos (starEach es X.env)).any (·.1)=false:=by rfl):PE X (.Call (.Name x p) (e::es) [] pos) (jy r t):=by
 intro pins s σ H Q I h
 refine wpAny_Call_Name_kw (lS I hg hm hv ?_ hn hdb)
 exact PyProof.Rows.callWith_builtin1 (ay (ha pos pins s σ H _ I h) fun us s1 ⟨vs,H1,I1,r1,q1⟩=>hc pins s1 σ H1 vs us Q I1 r1 q1) he bW
theorem vg (hc:fB X (.type T) r)(hg:Gl X x)(hm:X.mg x=none)(hv:bootBuiltins x=some (.type T))(ha:PA X (e::es) t)(hn:x ≠ "__name__" := by decide)(hdb:(x==("__debug__" : Str))=false:=by decide)(he:starEach (e::es) X.env=(false,eval e X.env)::starEach es X.env:=by rfl)(bW:(backTo pos (starEach es X.env)).any (·.1)=false:=by rfl):PE X (.Call (.Name x p) (e::es) [] pos) (jy r t):=by
 intro pins s σ H Q I h
 refine wpAny_Call_Name_kw (lS I hg hm hv ?_ hn hdb)
 exact PyProof.Rows.callWith_type1 (ay (ha pos pins s σ H _ I h) fun us s1 ⟨vs,H1,I1,r1,q1⟩=>hc pins s1 σ H1 vs us Q I1 r1 q1) he bW
end
end L2
namespace HT
open PySem PyProof.Rows
section
variable {prog:Program}{w:World}{A:Around}{E:Value->Shared->Prop}{s:Shared}
def eE (n d:Nat):Option Int->Nat
 |none=>d
 |some v=>if v<0 then (v+(n:Int)).toNat else min v.toNat n
theorem Bb (n d k:Nat):eE n d (some (k:Int))=min k n:=by
 show (if (k:Int)<0 then ((k:Int)+(n:Int)).toNat else min (k:Int).toNat n)=min k n
 rw [if_neg (by omega),Int.toNat_natCast]
end
end HT
namespace L2
open PySem PySem.Spec PyProof.Rows
abbrev TO:=St->Hp->(Option Int->Hp->Prop)->Prop
def PO (X:Cx)(e:Option Expr)(t:TO):Prop :=
 ∀ (pins:List (Addr×Obj)) (s:Shared) (σ:St) (H:Hp) (Q:Option Int->Hp->Prop),Inv X pins σ H s->t σ H Q ->
  wpAny (model X.prog X.w) X.A (evalPart e X.env) (fun u s'=>∃ o H',Inv X pins σ H' s'/\IsPart u o/\Q o H') X.xe s
def Kx:TO:=fun _ H Q=>Q none H
def MZ (t:TE):TO:=fun σ H Q=>t σ H fun x H1=>∃ i,x=.int i/\Q (some i) H1
theorem intsAre_of {ns:List Int}:∀ {us:List Value},Vals (ns.map V.int) us->IntsAre us ns:=by
 induction ns with
 |nil=>intro us r;rw [List.map_nil] at r;cases r;exact .nil
 |cons n ns ih =>
  intro us r
  rw [List.map_cons] at r
  cases r with
  |cons r1 r2 =>
   obtain ⟨t,e⟩:=r1
   subst e
   exact .cons n t (ih r2)
section
variable {X:Cx}{e:Expr}{te:TE}{lo hi:Option Expr}{tl th:TO}{pos p2:Pos}
theorem V0:PO X none Kx:=by
 intro pins s σ H Q I h
 rw [evalPart_none]
 exact wpAny_pure ⟨none,H,I,.none,h⟩
theorem V1 (h:PE X e te):PO X (some e) (MZ te):=by
 intro pins s σ H Q I hw
 rw [evalPart_some]
 refine ay (h pins s σ H _ I hw) fun u s1 ⟨x,H1,I1,r1,q1⟩=>?_
 obtain ⟨i,rfl,q⟩:=q1
 obtain ⟨t,rfl⟩:=r1
 exact ⟨some i,H1,I1,.int i t,q⟩
def Pt (X:Cx)(r:V->Option Int->Option Int->Hp->VK->Prop):Prop :=
 ∀ (pins:List (Addr×Obj)) (s:Shared) (σ:St) (H:Hp) (x:V) (v vl vu:Value) (lo hi:Option Int) (sl:Addr) (Q:VK),Inv X pins σ H s->RelV x v->s.heap.IsSliceOf sl vl vu .none->IsPart vl lo->IsPart vu hi->r x lo hi H Q ->
  ∃ T id,typeLookup (.type T) "__getitem__" = pure (some (.builtin id))/\s.TypeIs v T/\wpAny (model X.prog X.w) X.A (getItem v (.ref sl)) (EP X pins σ Q) X.xe s
def Pu (r:V->Option Int->Option Int->Hp->VK->Prop)(te:TE)(tl th:TO):TE:=fun σ H Q=>te σ H fun x H1=>tl σ H1 fun l H2=>th σ H2 fun u H3=>r x l u H3 Q
theorem UW {r:V->Option Int->Option Int->Hp->VK->Prop}(hr:Pt X r)(he:PE X e te)(hl:PO X lo tl)(hu:PO X hi th):PE X (.Subscript e (.Slice lo hi none p2) pos) (Pu r te tl th):=by
 intro pins s σ H Q I h
 refine Subscript_ (ay (he pins s σ H _ I h) fun v s1 ⟨x,H1,I1,r1,q1⟩=>?_)
 refine wpAny_Slice (ay (hl pins s1 σ H1 _ I1 q1) fun vl s2 ⟨l,H2,I2,pl,q2⟩=>ay (hu pins s2 σ H2 _ I2 q2) fun vu s3 ⟨u,H3,I3,pu,q3⟩=>?_)
 rw [evalPart_none]
 refine wpAny_pure ?_
 have I4:Inv X pins σ H3 { s3 with heap:=s3.heap.push { cls:=.type "slice",data:=.fields #[vl,vu,.none] } }:=I3.kept (t':=s3.toks) fun b ob q=>Heap.get?_push_of_some _ q
 obtain ⟨T,id,hT,ht,hg⟩:=hr pins { s3 with heap:=s3.heap.push { cls:=.type "slice",data:=.fields #[vl,vu,.none] } } σ H3 x v vl vu l u s3.heap.objs.size Q I4 r1 (Heap.IsSliceOf.new ..) pl pu q3
 show wpAny (model X.prog X.w) X.A (subscriptTail e (.Slice lo hi none p2) v (.ref s3.heap.objs.size)) (EP X pins σ Q) X.xe { s3 with heap:=s3.heap.push { cls:=.type "slice",data:=.fields #[vl,vu,.none] } }
 exact tail_any (ops:=[.ref s3.heap.objs.size,v]) ht hT hg (by with_unfolding_all rfl)
def qw (xs:List V)(lo hi:Option Int):List V:=(xs.drop (HT.eE xs.length 0 lo)).take (HT.eE xs.length xs.length hi-HT.eE xs.length 0 lo)
theorem SY (xs:List V)(lo hi:Option Int):(qw xs lo hi).length<=xs.length:=by
 unfold qw
 rw [List.length_take,List.length_drop]
 omega
end
def gv (n:Nat)(i:Int):Option Nat:=if 0<=i then (if i<n then some i.toNat else none) else if -(n:Int)<=i then some (i+n).toNat else none
def bq {α:Type}(xs:List α)(i:Int):Option α:=(gv xs.length i).bind fun j=>xs[j]?
theorem vC {n:Nat}{i:Int}{j:Nat}(h:gv n i=some j):seqIndex? i n=some j/\j<n /\ -(n:Int)<=i/\i<n:=by
 unfold gv at h
 by_cases h0 : 0<=i
 ·rw [if_pos h0] at h
  by_cases h1:i<n
  ·rw [if_pos h1] at h
   have e:i.toNat=j:=Option.some.inj h
   exact ⟨by rw [seqIndex_of h0 h1,e],by omega,by omega,h1⟩
  ·rw [if_neg h1] at h;cases h
 ·rw [if_neg h0] at h
  by_cases h1 : -(n:Int)<=i
  ·rw [if_pos h1] at h
   have e:(i+n).toNat=j:=Option.some.inj h
   exact ⟨by rw [seqIndex_neg (by omega) h1,e],by omega,h1,by omega⟩
  ·rw [if_neg h1] at h;cases h
theorem Ky {α:Type}{xs:List α}{i:Int}{v : α}(h:bq xs i=some v):∃ j,seqIndex? i xs.length=some j/\xs[j]?=some v/\j<xs.length /\ -(xs.length:Int)<=i/\i<xs.length:=by
 unfold bq at h
 cases e:gv xs.length i with
 |none=>rw [e] at h;cases h
 |some j =>
  rw [e] at h
  obtain ⟨h1,h2,h3,h4⟩:=vC e
  exact ⟨j,h1,h,h2,h3,h4⟩
theorem fL {α:Type}{xs:List α}{j:Nat}{v : α}(h:xs[j]?=some v):bq xs (j:Int)=some v:=by
 have hj:j<xs.length:=(List.getElem?_eq_some_iff.mp h).1
 have e:gv xs.length (j:Int)=some j:=by
  unfold gv
  rw [if_pos (by omega),if_pos (by omega)];simp
 unfold bq;rw [e];exact h
def Bc (b:Expr):Prop:=∀ o i,subscripted b false o i=operate [o,i] (getItem o i)
def t4 (X:Cx)(r:R2):Prop :=
 ∀ (value slice:Expr) (pins:List (Addr×Obj)) (s:Shared) (σ:St) (H:Hp) (x y:V) (v u:Value) (Q:VK),Inv X pins σ H s->RelV x v->RelV y u->r x y H Q ->
  subscripted slice false v u=operate [v,u] (getItem v u)->wpAny (model X.prog X.w) X.A (subscriptTail value slice v u) (EP X pins σ Q) X.xe s
def Pw (X:Cx)(id:String)(r:V->List V->Hp->VK->Prop):Prop :=
 ∀ (pins:List (Addr×Obj)) (s:Shared) (σ:St) (H:Hp) (x:V) (xs:List V) (v:Value) (us:List Value) (Q:VK),Inv X pins σ H s->RelV x v->Vals xs us->r x xs H Q ->
  wpAny (model X.prog X.w) X.A (call (.builtin id) (v::us)) (EP X pins σ Q) X.xe s
section
variable {X:Cx}{a b:Expr}{ta tb:TE}{pos:Pos}
theorem sT {r:R2}(hr:t4 X r)(ha:PE X a ta)(hb:PE X b tb)(hs:Bc b):PE X (.Subscript a b pos) (iF r ta tb):=by
 intro pins s σ H Q I h
 exact Subscript_ (Dk ha hb I h fun v u s2 x y H2 I2 rx ry q=>hr a b pins s2 σ H2 x y v u Q I2 rx ry q (hs _ _))
def Ds (K:PySem.W.Frag):R2:=fun x y H Q=>∃ p xs i v,x=.ref p/\y=.int i/\aH K H p xs/\bq xs i=some v/\Q v H
def tH (K:PySem.W.Frag):R2:=fun x y H Q=>∃ p xs i v,x=.ref p/\y=.int i/\cM K H p xs/\bq xs i=some v/\Q v H
theorem V2:t4 X (Ds X.K):=by
 intro value slice pins s σ H x y v u Q I rx ry h hs
 obtain ⟨p,xs,i,z,rfl,rfl,hq,he,q⟩:=h
 cases rx
 obtain ⟨t,rfl⟩:=ry
 obtain ⟨its,r,pl,hz⟩:=I.list hq
 obtain ⟨j,h1,h2,h3,h4,h5⟩:=Ky he
 obtain ⟨w,ew,iH⟩:=r.get h2
 have hl:=r.length
 have hn:=vV
 have fin:EP X pins σ Q w s:=⟨z,H,I,iH,q⟩
 by_cases h0 : 0<=i
 ·have hj:i.toNat=j:=by
   rw [seqIndex_of h0 h5] at h1
   exact Option.some.inj h1
  exact item_listR pl.isList h0 (by omega) (by rw [hj];simpa using ew) fin hs
 ·have hj:(i+(its.toArray.size:Int)).toNat=j:=by
   rw [seqIndex_neg (by omega) h4] at h1
   rw [List.size_toArray,<- hl]
   exact Option.some.inj h1
  exact subscriptTail_builtinR (x:=w) pl.isList.typeIs slot_list_getitem.lookup
   (wpAny_getItem_list_neg (Q:=fun r s'=>r=w/\EP X pins σ Q r s') pl.isList (by omega) (by rw [List.size_toArray]<;>omega) (by omega) (by rw [hj];simpa using ew) ⟨rfl,fin⟩) hs
theorem BG:t4 X (tH X.K):=by
 intro value slice pins s σ H x y v u Q I rx ry h hs
 obtain ⟨p,xs,i,z,rfl,rfl,hq,he,q⟩:=h
 cases rx
 obtain ⟨t,rfl⟩:=ry
 obtain ⟨its,r,pl,hz⟩:=I.tuple hq
 obtain ⟨j,h1,h2,h3,h4,h5⟩:=Ky he
 obtain ⟨w,ew,iH⟩:=r.get h2
 have hl:=r.length
 have hn:=vV
 have fin:EP X pins σ Q w s:=⟨z,H,I,iH,q⟩
 exact subscriptTail_builtinR (x:=w) pl.typeIs slot_tuple_getitem.lookup
  (getItem_tuple (j:=j) (Q:=fun r s'=>r=w/\EP X pins σ Q r s') pl (by omega) (by omega) (by rw [List.size_toArray,<- hl];exact h1) (by simpa using ew) ⟨rfl,fin⟩) hs
theorem Tp (its:List Value)(n j:Nat)(u:Value):Obj.mapSeq (·.setIfInBounds j u) { cls:=.type "list",data:=.seq its.toArray n }={ cls:=.type "list",data:=.seq (its.set j u).toArray n }:=by
 simp [Obj.mapSeq]
theorem Inv.lst {pins:List (Addr×Obj)}{σ:St}{H:Hp}{s:Shared}{p:Addr}{xs:List V}(I:Inv X pins σ H s)(h:H p=some (.lst xs)) :
  ∃ (its:List Value) (n:Nat),Vals xs its/\s.heap.get? p=some { cls:=.type "list",data:=.seq its.toArray n }/\xs.length<=sizeLine:=by
 obtain ⟨z,its,n,r,e⟩:=I.av p _ h
 exact ⟨its,n,r,e,z⟩
theorem Inv.XZ {pins:List (Addr×Obj)}{σ:St}{H:Hp}{s:Shared}{p:Addr}{xs ys:List V}{its its':List Value}{n n':Nat}{f:Obj->Obj}(I:Inv X pins σ H s)(h:H p=some (.lst xs))(ho:s.heap.get? p=some { cls:=.type "list",data:=.seq its.toArray n })(hf:f { cls:=.type "list",data:=.seq its.toArray n }={ cls:=.type "list",data:=.seq its'.toArray n' })(r:Vals ys its')(hz:ys.length<=sizeLine)(t:Nat) :
  Inv X pins σ (upd H p (.lst ys)) { s with heap:=s.heap.update p f,toks:=t }:=by
 have e:(s.heap.update p f).get? p=some { cls:=.type "list",data:=.seq its'.toArray n' }:=by
  rw [Heap.get?_update_self f ho (by rw [hf]<;>rfl),hf]
 refine I.write (x:=p) (e:=p) (by rw [h];trivial) (.inl rfl) (fun b u hb q=>(Heap.get?_update_other _ _ (Ne.symm hb)).trans q) ⟨_,e⟩ ?_
 exact ⟨hz,its',n',r,e⟩
def CA:V->V->V->Hp->(Hp->Prop)->Prop:=fun o i v H Q=>∃ p xs k j,o=.ref p/\i=.int k/\H p=some (.lst xs)/\gv xs.length k=some j/\Q (upd H p (.lst (xs.set j v)))
theorem set_list:NV X CA:=by
 intro pins s σ H o i v ov iv u Q I ro ri rv h
 obtain ⟨p,xs,k,j,rfl,rfl,hp,hj,q⟩:=h
 cases ro
 obtain ⟨t,rfl⟩:=ri
 obtain ⟨its,n,r,ho,hz⟩:=I.lst hp
 obtain ⟨h1,h2,h3,h4⟩:=vC hj
 have hl:=r.length
 have hn:=vV
 have I':Inv X pins σ (upd H p (.lst (xs.set j v))) { s with heap:=s.heap.update p (Obj.mapSeq (·.setIfInBounds j u)) } :=
  I.XZ hp ho (Tp its n j u) (r.set rv j) (by rw [List.length_set];exact hz) s.toks
 by_cases h0 : 0<=k
 ·have hk:k.toNat=j:=by
   rw [seqIndex_of h0 h4] at h1
   exact Option.some.inj h1
  exact PySem.W.ki_setAt ho h0 (by omega) (by rw [List.size_toArray,<- hl];exact h4) (by rw [hk];exact ⟨_,I',q⟩)
 ·have hk:(k+(its.toArray.size:Int)).toNat=j:=by
   rw [seqIndex_neg (by omega) h3] at h1
   rw [List.size_toArray,<- hl]
   exact Option.some.inj h1
  exact PySem.W.ki_setBack ho (by omega) (by rw [List.size_toArray,<- hl];exact h3) (by omega) (by rw [hk];exact ⟨_,I',q⟩)
theorem Su (lo hi:Option Int)(n:Nat):(sliceBounds lo hi none n).1=((HT.eE n 0 lo:Nat):Int)/\(sliceBounds lo hi none n).2.1=((HT.eE n n hi:Nat):Int)/\(sliceBounds lo hi none n).2.2=1:=by
 refine ⟨?_,?_,rfl⟩
 ·cases lo with
  |none=>simp [sliceBounds,HT.eE]
  |some i =>
   simp only [sliceBounds,HT.eE,Option.getD_none,show (1:Int) > 0 by decide,if_true]
   by_cases h:i<0
   ·simp only [h,if_true]<;>omega
   ·simp only [h,if_false]<;>omega
 ·cases hi with
  |none=>simp [sliceBounds,HT.eE]
  |some i =>
   simp only [sliceBounds,HT.eE,Option.getD_none,show (1:Int) > 0 by decide,if_true]
   by_cases h:i<0
   ·simp only [h,if_true]<;>omega
   ·simp only [h,if_false]<;>omega
theorem R0 (its:List Value)(lo hi:Option Int):slicePick its.toArray lo hi none=((its.drop (HT.eE its.length 0 lo)).take (HT.eE its.length its.length hi-HT.eE its.length 0 lo)).toArray:=by
 obtain ⟨h1,h2,h3⟩:=Su lo hi its.toArray.size
 unfold slicePick
 rw [h1,h2,h3]
 simp only [sliceRange_one,pick_run,List.size_toArray]<;>rfl
def NY (K:PySem.W.Frag):V->Option Int->Option Int->Hp->VK->Prop:=fun x lo hi H Q=>∃ a xs,x=.ref a/\aH K H a xs/\∀ p,H p=none->Q (.ref p) (upd H p (.lst (qw xs lo hi)))
theorem V3:Pt X (NY X.K):=by
 intro pins s σ H x v vl vu lo hi sl Q I rx hs pl pu h
 obtain ⟨a,xs,rfl,hx,q⟩:=h
 cases rx
 obtain ⟨its,r,ht,hz⟩:=I.list hx
 have hlen:=r.length
 refine ⟨"list",_,slot_list_getitem.lookup,ht.isList.typeIs,?_⟩
 refine wpAny_getItem_list_slice ht.isList hs pl pu .none (by simp) ?_ (by rw [List.size_toArray]<;>omega)
 rw [R0,<- hlen]
 refine ⟨.ref s.heap.objs.size,_,I.laid (t':=s.toks) (o:=.lst (qw xs lo hi)) (fun b ob q=>Heap.get?_push_of_some _ q) (Nat.le_refl _) ?_,rfl,q _ (I.av.fresh (Nat.le_refl _))⟩
 exact ⟨Nat.le_trans (SY xs lo hi) hz,_,0,(r.drop (HT.eE xs.length 0 lo)).take (HT.eE xs.length xs.length hi-HT.eE xs.length 0 lo),Heap.get?_push_size _ rfl⟩
def eX:V->Bool
 | .aS=>true
 | .bl _=>true
 | .int _=>true
 | .str _=>true
 |_=>false
def fF:V->V->Bool
 | .aS,.aS=>true
 | .bl a,.bl b=>a==b
 | .bl a,.int b=>(if a then 1 else 0)==b
 | .int a,.bl b=>a==(if b then 1 else 0)
 | .int a,.int b=>a==b
 | .str a,.str b=>a==b
 |_,_=>false
theorem LI {A:Around}{s:Shared}{y x:V}{u v:Value}(ry:RelV y u)(rx:RelV x v)(fy:eX y=true)(fx:eX x=true):SeqAt.EqAt A s u v (fF y x):=by
 cases y with
 |aS =>
  cases ry
  cases x with
  |aS=>cases rx;exact SeqAt.EqAt.same _
  |bl b=>cases rx;exact SeqAt.EqAt.none_bool b
  |int b=>obtain ⟨t,rfl⟩:=rx;exact SeqAt.EqAt.none_int b t
  |str b=>obtain ⟨t,rfl⟩:=rx;exact SeqAt.EqAt.none_str b t
  |_=>exact absurd (show false=true from fx) Bool.false_ne_true
 |bl a =>
  cases ry
  cases x with
  |aS=>cases rx;exact SeqAt.EqAt.bool_none a
  |bl b=>cases rx;exact SeqAt.EqAt.bool_bool a b
  |int b=>obtain ⟨t,rfl⟩:=rx;exact SeqAt.EqAt.bool_int a b t
  |str b=>obtain ⟨t,rfl⟩:=rx;exact SeqAt.EqAt.bool_str a b t
  |_=>exact absurd (show false=true from fx) Bool.false_ne_true
 |int a =>
  obtain ⟨t',rfl⟩:=ry
  cases x with
  |aS=>cases rx;exact SeqAt.EqAt.int_none a t'
  |bl b=>cases rx;exact SeqAt.EqAt.int_bool a t' b
  |int b=>obtain ⟨t,rfl⟩:=rx;exact SeqAt.EqAt.int_int a t' b t
  |str b=>obtain ⟨t,rfl⟩:=rx;exact SeqAt.EqAt.int_str a t' b t
  |_=>exact absurd (show false=true from fx) Bool.false_ne_true
 |str a =>
  obtain ⟨t',rfl⟩:=ry
  cases x with
  |aS=>cases rx;exact SeqAt.EqAt.str_none a t'
  |bl b=>cases rx;exact SeqAt.EqAt.str_bool a t' b
  |int b=>obtain ⟨t,rfl⟩:=rx;exact SeqAt.EqAt.str_int a t' b t
  |str b=>obtain ⟨t,rfl⟩:=rx;exact SeqAt.EqAt.str_str a t' b t
  |_=>exact absurd (show false=true from fx) Bool.false_ne_true
 |_=>exact absurd (show false=true from fy) Bool.false_ne_true
def fG (x:V)(u:Value):Bool:=match u with
 | .none=>fF .aS x
 | .bool b=>fF (.bl b) x
 | .int i _=>fF (.int i) x
 | .str z _=>fF (.str z) x
 |_=>false
theorem BH {x y:V}{u:Value}(r:RelV y u)(f:eX y=true):fG x u=fF y x:=by
 cases y with
 |aS=>cases r;rfl
 |bl b=>cases r;rfl
 |int i=>obtain ⟨t,rfl⟩:=r;rfl
 |str z=>obtain ⟨t,rfl⟩:=r;rfl
 |_=>exact absurd (show false=true from f) Bool.false_ne_true
theorem se {x:V}:∀ {xs:List V} {us:List Value},Vals xs us->xs.all eX=true->us.any (fG x)=xs.any fun y=>fF y x
 |_,_,.nil,_=>rfl
 |y::xs,u::us,.cons r t,f=>by
  rw [List.all_cons,Bool.and_eq_true] at f
  rw [List.any_cons,List.any_cons,BH r f.1,se t f.2]
theorem pD {A:Around}{s:Shared}{x:V}{v:Value}(rx:RelV x v)(fx:eX x=true):∀ {xs:List V} {us:List Value},Vals xs us->xs.all eX=true->∀ u ∈ us,SeqAt.EqAt A s u v (fG x u)
 |_,_,.nil,_=>fun u hu=>by cases hu
 |y::xs,u::us,.cons r t,f=>fun u' hu=>by
  rw [List.all_cons,Bool.and_eq_true] at f
  rcases List.mem_cons.mp hu with rfl | hu
  ·rw [BH r f.1];exact LI r rx f.1 fx
  ·exact pD rx fx t f.2 u' hu
def xB (x:V)(xs:List V):Bool:=xs.any fun y=>fF y x
def t5 (K:PySem.W.Frag)(neg:Bool):R2:=fun x y H Q=>∃ p xs,y=.ref p/\(aH K H p xs\/cM K H p xs)/\eX x=true/\xs.all eX=true/\Q (.bl (if neg then !xB x xs else xB x xs)) H
theorem Ud:cV X (compareOp .In) (t5 X.K false):=by
 intro pins s σ H x y v u Q I rx ry h
 obtain ⟨p,xs,rfl,hq,fx,fs,q⟩:=h
 cases ry
 rcases hq with hq | hq
 ·obtain ⟨its,r,pl,hz⟩:=I.list hq
  refine SeqAt.in_listAt (fG x) pl.isList (fun w hw=>pD rx fx r fs w (by simpa using hw)) ⟨.bl _,H,I,rfl,?_⟩
  rw [show its.toArray.any (fG x)=its.any (fG x) by simp,se r fs]
  exact q
 ·obtain ⟨its,r,pl,hz⟩:=I.tuple hq
  refine SeqAt.in_tupleAt (fG x) pl (fun w hw=>pD rx fx r fs w (by simpa using hw)) ⟨.bl _,H,I,rfl,?_⟩
  rw [show its.toArray.any (fG x)=its.any (fG x) by simp,se r fs]
  exact q
theorem Sv:cV X (compareOp .NotIn) (t5 X.K true):=by
 intro pins s σ H x y v u Q I rx ry h
 obtain ⟨p,xs,rfl,hq,fx,fs,q⟩:=h
 cases ry
 rcases hq with hq | hq
 ·obtain ⟨its,r,pl,hz⟩:=I.list hq
  refine SeqAt.notIn_listAt (fG x) pl.isList (fun w hw=>pD rx fx r fs w (by simpa using hw)) ⟨.bl _,H,I,rfl,?_⟩
  rw [show its.toArray.any (fG x)=its.any (fG x) by simp,se r fs]
  exact q
 ·obtain ⟨its,r,pl,hz⟩:=I.tuple hq
  refine SeqAt.notIn_tupleAt (fG x) pl (fun w hw=>pD rx fx r fs w (by simpa using hw)) ⟨.bl _,H,I,rfl,?_⟩
  rw [show its.toArray.any (fG x)=its.any (fG x) by simp,se r fs]
  exact q
theorem Ik:fB X (.builtin "len") (fun xs H Q=>∃ p ys,xs=[.ref p]/\(aH X.K H p ys\/cM X.K H p ys)/\Q (.int ys.length) H):=by
 intro pins s σ H xs us Q I r h
 obtain ⟨p,ys,rfl,hq,q⟩:=h
 obtain ⟨u,rfl,rx⟩:=vals1 r
 cases rx
 have hn:=vV
 rcases hq with hq | hq
 ·obtain ⟨its,r',pl,hz⟩:=I.list hq
  have hlen:=r'.length
  exact Calls.call_len_list pl.isList (by simp only [List.size_toArray]<;>omega) ⟨.int ys.length,H,I.tok _,⟨s.toks+1,by rw [List.size_toArray,hlen]⟩,q⟩
 ·obtain ⟨its,r',pl,hz⟩:=I.tuple hq
  have hlen:=r'.length
  exact len_tuple pl (by simp only [List.size_toArray]<;>omega) ⟨.int ys.length,H,I.tok _,⟨s.toks+1,by rw [List.size_toArray,hlen]⟩,q⟩
theorem Il:fB X (.type "list") (fun xs H Q=>∃ p ys,xs=[.ref p]/\(aH X.K H p ys\/cM X.K H p ys)/\∀ l,H l=none->Q (.ref l) (upd H l (.lst ys))):=by
 intro pins s σ H xs us Q I r h
 obtain ⟨p,ys,rfl,hq,q⟩:=h
 obtain ⟨u,rfl,rx⟩:=vals1 r
 cases rx
 have fin:∀ (its:List Value),Vals ys its->ys.length<=sizeLine->∀ (h':Heap) (c':Nat),(∀ b o',s.heap.get? b=some o'->h'.get? b=some o') ->
   h'.get? s.heap.objs.size=some { cls:=.type "list",dict:=none,data:=.seq its.toArray c',slots:=#[] }->EP X pins σ Q (.ref s.heap.objs.size) { s with heap:=h' }:=fun its r' hz h' c' kp e =>
  ⟨.ref s.heap.objs.size,_,I.laid (t':=s.toks) kp (Nat.le_refl _) (show bQ X.prog X.w _ h' _ (.lst ys) from ⟨hz,its,c',r',e⟩),rfl,q _ (I.av.fresh (Nat.le_refl _))⟩
 rcases hq with hq | hq
 ·obtain ⟨its,r',pl,hz⟩:=I.list hq
  have hlen:=r'.length
  obtain ⟨o,ho,hc,n,hd⟩:=pl.isList
  exact call_list_seq p (.inl rfl) ho hc hd (fun h' c' kp e=>fin its r' hz h' c' kp e) (by simp only [List.size_toArray]<;>omega)
 ·obtain ⟨its,r',pl,hz⟩:=I.tuple hq
  have hlen:=r'.length
  obtain ⟨o,ho,hc,n,hd⟩:=pl
  exact call_list_seq p (.inr rfl) ho hc hd (fun h' c' kp e=>fin its r' hz h' c' kp e) (by simp only [List.size_toArray]<;>omega)
theorem R1:fB X (.type "tuple") (fun xs H Q=>∃ p ys,xs=[.ref p]/\((aH X.K H p ys/\∀ l,H l=none->Q (.ref l) (upd H l (.tup ys)))\/(cM X.K H p ys/\Q (.ref p) H))):=by
 intro pins s σ H xs us Q I r h
 obtain ⟨p,ys,rfl,h⟩:=h
 obtain ⟨u,rfl,rx⟩:=vals1 r
 cases rx
 rcases h with ⟨hq,q⟩ | ⟨hq,q⟩
 ·obtain ⟨its,r',pl,hz⟩:=I.list hq
  have hlen:=r'.length
  refine call_tuple_list pl.isList (fun h' kp=>?_) (by simp only [List.size_toArray]<;>omega)
  have I1:Inv X pins σ H { s with heap:=h' }:=I.kept (t':=s.toks) kp
  have I2:Inv X pins σ (upd H h'.objs.size (.tup ys)) { s with heap:=h'.push { cls:=.type "tuple",data:=.seq its.toArray } } :=
   I1.laid (t':=s.toks) (fun b o e=>Heap.get?_push_of_some _ e) (Nat.le_refl _) (show bQ X.prog X.w _ _ _ (.tup ys) from ⟨hz,its,r',IsTup.new _ _⟩)
  exact ⟨.ref h'.objs.size,_,I2,rfl,q _ (I1.av.fresh (Nat.le_refl _))⟩
 ·obtain ⟨its,r',pl,hz⟩:=I.tuple hq
  exact call_tuple_same pl ⟨.ref p,H,I,rfl,q⟩
def Px (K:PySem.W.Frag)(T:String)(x:V)(H:Hp):Prop:=match x with
 | .str _=>T = "str"
 | .int _=>T = "int"
 | .ref p=>(T = "list" /\ ∃ xs,aH K H p xs)\/(T = "tuple" /\ ∃ o,K.lookup p=some o/\o.cls=.type "tuple" /\ o.dict=none) \/
   (T = "dict" /\ ((∃ aj,H p=some (.dK aj))\/∃ aj,H p=some (.dT aj)))\/(T = "set" /\ ∃ S n,H p=some (.set S n))
 |_=>False
theorem X0 {pins:List (Addr×Obj)}{σ:St}{H:Hp}{s:Shared}{T:String}{x:V}{v:Value}(I:Inv X pins σ H s)(r:RelV x v)(ty:Px X.K T x H) :
  s.TypeIs v T/\∀ a,v=.ref a->∃ ob,s.heap.get? a=some ob/\ob.dict=none:=by
 cases x with
 |str z =>
  obtain ⟨t,rfl⟩:=r
  cases (show T = "str" from ty)
  exact ⟨typeIs_str s z t,fun _ e=>nomatch e⟩
 |int i =>
  obtain ⟨t,rfl⟩:=r
  cases (show T = "int" from ty)
  exact ⟨typeIs_int s i t,fun _ e=>nomatch e⟩
 |ref p =>
  cases r
  rcases ty with ⟨rfl,xs,hq⟩ | ⟨rfl,o,hk,hc,hd⟩ | ⟨rfl,hk⟩ | ⟨rfl,S,n,hk⟩
  ·obtain ⟨its,_,pl,_⟩:=I.list hq
   refine ⟨pl.isList.typeIs,fun a e=>?_⟩
   cases e
   obtain ⟨o,n,e,c,hd,_⟩:=pl
   exact ⟨o,e,hd⟩
  ·refine ⟨⟨o,I.cU p o hk,hc⟩,fun a e=>?_⟩
   cases e
   exact ⟨o,I.cU _ o hk,hd⟩
  ·have z:∃ o,s.heap.get? p=some o/\o.ExactDict:=by
    rcases hk with ⟨aj,hk⟩ | ⟨aj,hk⟩
    ·obtain ⟨_,_,_,_,o,_,_,e,ex,_⟩:=I.av p _ hk
     exact ⟨o,e,ex⟩
    ·obtain ⟨_,_,_,_,o,_,_,e,ex,_⟩:=I.av p _ hk
     exact ⟨o,e,ex⟩
   obtain ⟨o,e,ex⟩:=z
   refine ⟨⟨o,e,ex.1⟩,fun a e2=>?_⟩
   cases e2
   exact ⟨o,e,ex.2.1⟩
  ·obtain ⟨o,_,_,_,e,ex,_⟩:=I.av p _ hk
   refine ⟨⟨o,e,ex.1⟩,fun a e2=>?_⟩
   cases e2
   exact ⟨o,e,ex.2.1⟩
 |_=>exact False.elim ty
def jz (K:PySem.W.Frag)(T:String)(r:V->List V->Hp->VK->Prop)(to:TE)(t:TA):TE:=fun σ H Q=>to σ H fun x H1=>Px K T x H1/\t σ H1 fun xs H2=>r x xs H2 Q
variable {o e:Expr}{es:List Expr}{to:TE}{t:TA}{name:Str}{apos cR:Pos}{T id:String}{r:V->List V->Hp->VK->Prop}
theorem me (pa:PlainAttrs T)(slot:Slot T name id)(D4:typeOf (.builtin id)=pure (.type "method_descriptor"))(hm:Pw X id r)(ho:PE X o to)(ha:PA X (e::es) t)(ig:attributeBase o name X.env (eval o X.env)=eval o X.env:=by rfl)(iu:((backTo cR (starEach (e::es) X.env)).all (fun x=>!x.1)&&(backToKw cR (keywordEach [] X.env)).all (fun x=>x.1.isSome)
   && decide ((e::es).length+([]:List Keyword).length+(if ([]:List Keyword).isEmpty then 0 else 1)<30))=true:=by rfl)(hline:(apos.endLine==cR.line)=true:=by rfl)(hs:starEach (e::es) X.env=(false,eval e X.env)::starEach es X.env:=by rfl)(BI:(backTo cR (starEach es X.env)).any (·.1)=false:=by rfl) :
  PE X (.Call (.Attribute o name apos) (e::es) [] cR) (jz X.K T r to t):=by
 intro pins s σ H Q I h
 refine wpAny_Call_method_late ig iu hline rfl (ay (ho pins s σ H _ I h) fun v s1 ⟨x,H1,I1,r1,ty,q1⟩=>?_)
 obtain ⟨h1,h2⟩:=X0 I1 r1 ty
 refine ⟨T,id,pa,slot,D4,h1,h2,?_⟩
 have hA:=ha cR pins s1 σ H1 _ I1 q1
 rw [hs] at hA ⊢
 refine Calls.callWith_builtin (by show (false || (backTo cR (starEach es X.env)).any (·.1))=false;rw [BI]<;>rfl) (Calls.evalArgs_plain ?_)
 exact ay hA fun us s2 ⟨vs,H2,I2,r2,q2⟩=>hm pins s2 σ H2 x vs v us Q I2 r1 r2 q2
end
def xC (X:Cx)(id:String)(r:V->List V->Hp->VK->Prop):Prop :=
 ∀ (pins:List (Addr×Obj)) (s:Shared) (σ:St) (H:Hp) (x:V) (xs:List V) (v:Value) (us:List Value) (Q:VK),Inv X pins σ H s->RelV x v->Vals xs us->r x xs H Q ->
  wpAny (model X.prog X.w) X.A (call (.builtin id) (v::us)) (EP X pins σ Q) X.xe s
theorem Vals.one:∀ {x:V} {us:List Value},Vals [x] us->∃ u,us=[u]/\RelV x u
 |_,_,.cons r .nil=>⟨_,rfl,r⟩
theorem Vals.two:∀ {x y:V} {us:List Value},Vals [x,y] us->∃ u v,us=[u,v]/\RelV x u/\RelV y v
 |_,_,_,.cons r (.cons q .nil)=>⟨_,_,rfl,r,q⟩
theorem Vals.eraseIdx:∀ {xs:List V} {us:List Value} (i:Nat),Vals xs us->Vals (xs.eraseIdx i) (us.eraseIdx i)
 |_,_,_,.nil=>.nil
 |_,_,0,.cons _ t=>t
 |_,_,i+1,.cons r t=>.cons r (Vals.eraseIdx i t)
theorem Jb {α:Type}:∀ (l:List α) (i:Nat),(l.eraseIdx i).length<=l.length
 |[],_=>Nat.le_refl _
 |_::_,0=>Nat.le_succ _
 |_::r,i+1=>Nat.succ_le_succ (Jb r i)
section
variable {X:Cx}{pins:List (Addr×Obj)}{σ:St}{H:Hp}{s:Shared}{l b:Addr}{xs ys zs:List V}
theorem Inv.Dt {its its':List Value}{n:Nat}{f:Array Value->Array Value}{t':Nat}(I:Inv X pins σ H s)(hH:H l=some (.lst xs))(e:s.heap.get? l=some { cls:=.type "list",data:=.seq its.toArray n })(hf:f its.toArray=its'.toArray)(hv:Vals ys its')(hz:ys.length<=sizeLine) :
  Inv X pins σ (upd H l (.lst ys)) { s with heap:=s.heap.update l (Obj.mapSeq f),toks:=t' }:=by
 have q:=PySem.IsL.update e f
 rw [hf] at q
 refine I.write (x:=l) (e:=l) (by rw [hH];exact trivial) (.inl rfl) (fun b' u hb hu=>(Heap.get?_update_other s.heap (Obj.mapSeq f) (Ne.symm hb)).trans hu) ⟨_,q⟩ ?_
 exact ⟨hz,its',_,hv,q⟩
theorem Inv.wN {its:List Value}{t':Nat}(I:Inv X pins σ H s)(hv:Vals ys its)(hz:ys.length<=sizeLine) :
  Inv X pins σ (upd H s.heap.objs.size (.lst ys)) { s with heap:=s.heap.push { cls:=.type "list",data:=.seq its.toArray },toks:=t' } :=
 I.laid (fun _ _ q=>Heap.get?_push_of_some _ q) (Nat.le_refl _) ⟨hz,its,0,hv,Heap.get?_push_size _ rfl⟩
theorem Inv.fresh (I:Inv X pins σ H s):H s.heap.objs.size=none:=I.av.fresh (Nat.le_refl _)
theorem Inv.wO (I:Inv X pins σ H s)(hH:H l=some (.lst xs)):xs.length<=sizeLine/\∃ (its:List Value) (n:Nat),Vals xs its/\xs.length=its.length/\s.heap.get? l=some { cls:=.type "list",data:=.seq its.toArray n }:=by
 obtain ⟨z,its,n,r,e⟩:=I.av l _ hH
 exact ⟨z,its,n,r,r.length,e⟩
theorem UX {n:Nat}(h:n<=sizeLine):Builtin.List.listTooLong n=false:=by
 unfold Builtin.List.listTooLong
 exact decide_eq_false (by omega)
end
section
variable {X:Cx}
def sf:V->List V->Hp->VK->Prop:=fun x vs H Q=>∃ l xs y,x=.ref l/\vs=[y]/\H l=some (.lst xs)/\xs.length<sizeLine/\Q .aS (upd H l (.lst (xs++[y])))
theorem mY:xC X "list.append" sf:=by
 intro pins s σ H x vs v us Q I rx rv h
 obtain ⟨l,xs,y,rfl,rfl,hH,hz,q⟩:=h
 cases rx
 obtain ⟨u,rfl,ru⟩:=rv.one
 obtain ⟨z,its,n,r,hl,e⟩:=I.wO hH
 refine call_meets F.slot_list_append ⟨_,e,rfl⟩ F.entry_list_append (F.args_list_append_2 _ _) (PySem.list_append l its.toArray n u (by rw [List.size_toArray];omega)) ⟨e,?_⟩
 refine ⟨.aS,_,I.Dt (its':=its++[u]) hH e (by simp) (r.append (.cons ru .nil)) ?_,rfl,q⟩
 rw [List.length_append,List.length_singleton]
 omega
def si:V->List V->Hp->VK->Prop:=fun x vs H Q=>∃ l b xs zs,x=.ref l/\vs=[.ref b]/\H l=some (.lst xs)/\H b=some (.lst zs)/\xs.length+zs.length<=sizeLine/\Q .aS (upd H l (.lst (xs++zs)))
theorem Jc:xC X "list.extend" si:=by
 intro pins s σ H x vs v us Q I rx rv h
 obtain ⟨l,b,xs,zs,rfl,rfl,hH,hB,hz,q⟩:=h
 cases rx
 obtain ⟨u,rfl,ru⟩:=rv.one
 cases ru
 obtain ⟨z,its,n,r,hl,e⟩:=I.wO hH
 obtain ⟨z2,gk,n2,r2,iI,e2⟩:=I.wO hB
 have hsz:its.toArray.size+gk.toArray.size<=sizeLine:=by rw [List.size_toArray,List.size_toArray];omega
 have Zc:¬ (!its.toArray.isEmpty&&Builtin.List.listTooLong (its.toArray.size+gk.toArray.size))=true:=by
  rw [UX hsz,Bool.and_false]
  exact Bool.false_ne_true
 refine call_meets F.slot_list_extend ⟨_,e,rfl⟩ F.entry_list_extend (F.args_list_extend_2 _ _)
  (AutoSeq1.list_extend_list_list_0 l its.toArray n b gk.toArray n2 Zc (by rw [List.size_toArray];omega) (by omega)) ⟨e,e2,?_⟩
 refine ⟨.aS,_,I.Dt (its':=its++gk) hH e (by simp) (r.append r2) ?_,rfl,q⟩
 rw [List.length_append]
 omega
def LJ:V->List V->Hp->VK->Prop:=fun x vs H Q=>∃ l xs i k y,x=.ref l/\vs=[.int i]/\H l=some (.lst xs) /\ -(2 ^ 63)<=i/\i<2 ^ 63/\seqIndex? i xs.length=some k/\xs[k]?=some y/\Q y (upd H l (.lst (xs.eraseIdx k)))
theorem UY:xC X "list.pop" LJ:=by
 intro pins s σ H x vs v us Q I rx rv h
 obtain ⟨l,xs,i,k,y,rfl,rfl,hH,h1,h2,hk,hy,q⟩:=h
 cases rx
 obtain ⟨u,rfl,ru⟩:=rv.one
 obtain ⟨t,rfl⟩:=ru
 obtain ⟨z,its,n,r,hl,e⟩:=I.wO hH
 obtain ⟨w,hw,iH⟩:=r.get hy
 refine call_meets F.slot_list_pop ⟨_,e,rfl⟩ F.entry_list_pop (F.args_list_pop_2 _ _)
  (MeetsSeq.list_pop_at l its.toArray n i t k w (fitsIndex_both h1 h2) (by rw [List.size_toArray,<- hl];exact hk) (by rw [<- Array.getElem?_toList];exact hw) (by rw [List.size_toArray];omega)) ⟨e,?_⟩
 refine ⟨y,_,I.Dt (its':=its.eraseIdx k) hH e ?_ (r.eraseIdx k) ?_,iH,q⟩
 ·show its.toArray.eraseIdxIfInBounds k=(its.eraseIdx k).toArray
  rw [List.eraseIdxIfInBounds_toArray]
 ·have:=Jb xs k
  omega
end
end L2
namespace Py
open PySem PySem.W PySem.Calls PyProof.Rows
theorem RD {P:Params}{h:Heap}:∀ (ns:List Int) (vs:List Value),WellAll P h vs (ns.map WData.int)->IntsAre vs ns:=by
 intro ns
 induction ns with
 |nil =>
  intro vs w
  rw [List.map_nil] at w
  cases w
  exact .nil
 |cons n ns ih =>
  intro vs w
  rw [List.map_cons] at w
  cases w with
  |cons a b =>
   cases a
   exact .cons _ _ (ih _ b)
theorem Ue {l:OpenLaw}{n:Nat}(hn:l.most=some n){P:Params}{h:Heap}{args:List WData}{vals:List Value}(wQ:l.row.toRowW.claim.pre args=true)(D5:WellAll P h vals args) :
  ∃ a vs ns,vals=[Value.ref a]/\args=[WData.list (ns.map WData.int)]/\h.get? a=some { cls:=.type "list",data:=.seq vs.toArray }/\IntsAre vs ns/\ns.length<=n:=by
 have hsh:WShape.hasAll [] args [.list .int]=true:=(pre_splitW wQ).1
 have hc:l.pre.holds [] { args:=args }=true:=(pre_splitW wQ).2
 obtain ⟨d,r,rfl,h1,h2⟩:=hasAllW_cons hsh
 obtain rfl:=hasAllW_nil h2
 obtain ⟨xs,rfl,h3⟩:=hasW_list h1
 obtain ⟨ns,rfl⟩:=items_int h3
 have hlen:ns.length<=n:=by
  unfold OpenLaw.pre at hc
  have h4:(WTm.not (.lt (.lit (.int (n:Int))) (.len (.arg 0)))).holds [] { args:=[.list (ns.map .int)] }=true:=by
   have h4:=(holds_andW hc).1
   rw [hn] at h4
   exact h4
  have h5:=condW_of h4 (w_not (w_lt w_lit (w_len_list (w_arg rfl))))
  rw [List.length_map] at h5
  refine Nat.le_of_not_lt fun q=>?_
  have q':(n:Int)<((ns.length:Nat):Int):=by omega
  first
   |(rw [decide_eq_true q'] at h5;exact absurd h5 (by decide))
   |(simp at h5;omega)
 cases D5 with
 |cons w1 w2 =>
  cases w2
  cases w1 with
  |list ho Du=>exact ⟨_,_,ns,rfl,rfl,ho,RD ns _ Du,hlen⟩
theorem Ug (l:OpenLaw)(args:List WData):l.row.toRowW.claim.post args (.bool true) args=true :=
 postW_of (r:=l.row.toRowW) (X:=(true==true))
  (show WShape.has [] (.bool true) .bool=true by first | rfl | decide | simp [WShape.has,WShape.arms,WShape.armsAll])
  (show (WTm.eq .res (.lit (.bool true))).value [] { args:=args,res:=some (.bool true),after:=args }=some (.bool (true==true)) from w_eq_bool (w_res rfl) w_lit) rfl
theorem S0 {l:OpenLaw}{n:Nat}{q:Program}{loose:List Str}{XP:(Str->Option Value)->Heap->Prop}{YP:World->Heap->Prop}{d:DefRec}(hn:l.most=some n)(t6:d.params.defaults=[])(call:∀ (w:World) (cy bt:Shared) (mg mb:Str->Option Value) (fa:Addr) (o:Obj) (pm cd doc:Value) (a:Addr) (vs:List Value) (ns:List Int),
   Ground q loose [] XP w cy mg mb bt.heap->YP w bt.heap ->
   bt.heap.get? fa=some o->o.data=.func (docDef d.name d.params d.body d.scope pm cd doc)->bt.heap.CodeRec cd d.name->mg d.name=some (.ref fa) ->
   bt.heap.get? a=some { cls:=.type "list",data:=.seq vs.toArray }->IntsAre vs ns->ns.length<=n->bt.gens=#[] ->
   codeAny (model l.prog w) callerA (.call (.ref fa) ⟨[.ref a],[]⟩) (fun r s'=>r=.ok (.ret (.bool true))/\OldK bt.heap s'.heap/\s'.os=bt.os/\AllBare s'.gens) bt) :
  WalkO q loose XP YP l.row.toRowW d [] (fun f vs=>PySem.call f vs):=by
 intro w cy bt mg mb G Y fa o pm cd doc dV kV ho hd eC hD t7 hg args vals as wQ ae3 hrd D5 hlo
 obtain rfl:dV=.none:=Dflts.none hD t6
 obtain rfl:kV=.none:=Dflts.noKw hD
 obtain ⟨a,vs,ns,rfl,rfl,Dw,hints,hlen⟩:=Ue hn wQ D5
 refine enter_call (codeAny_mono (call w cy bt mg mb fa o pm cd doc a vs ns G Y ho (fd_plain hd) eC t7 Dw hints hlen hg) fun r s' hq=>?_)
 obtain ⟨rfl,h2,h3,h4⟩:=hq
 exact ⟨.inl ⟨.bool true,.bool true,[],rfl,fun _=>rfl,.bool true,Ug l _,fun _=>⟨List.Pairwise.nil,fun _ hm=>(nomatch hm)⟩⟩,h2,h3,h4⟩
end Py
namespace L2
open PySem PySem.Spec PyProof.Rows
theorem Ac:∀ {vs:List Value} {ns:List Int},IntsAre vs ns->Vals (ns.map V.int) vs
 |_,_,.nil=>.nil
 |_,_,.cons n t h=>.cons ⟨t,rfl⟩ (Ac h)
def Dx (H:Hp):Prop:=∀ b,H b=none\/∃ o xs,H b=some (.cK o (.lst xs))
theorem UZ {P:Program}{w:World}{K:PySem.W.Frag}{mg mb:Str->Option Value}{CX:e9}{k:Nat}{fa a:Addr}{fd:FuncData}{x:Str}{sp:Sp}{bt:Shared}{vs:List Value}{ns:List Int}(KX:K.In bt.heap)(gS:bt.heap.Ns mainGlobals mg)(hb:bt.heap.Ns builtinsNs mb)(hbb:∀ x:Str,x ≠ "__name__" -> mb x=bootBuiltins x)(ZU:bt.heap.NoLimit)(hg:bt.gens=#[])(ha:bt.heap.get? a=some { cls:=.type "list",data:=.seq vs.toArray })(hi:IntsAre vs ns)(hl:ns.length<=sizeLine)(hr:cQ k callerA)(F:∀ base:Heap,K.In base->base.Ns mainGlobals mg->aM P w K mg base CX k fa fd [x] sp)(Zd:∀ (s:Shared) (u:Value),BindsTo s fd ⟨[u],[]⟩ [(x,u)])(iG:∀ H:Hp,Dx H->aH K H a (ns.map V.int)->sp [.ref a] H (fun v _=>v=.bl true) fun _ _ _=>False)(D6:∀ H e s',CX [] H bt (fun _ _ _=>False) e s'->False) :
  codeAny (model P w) callerA (.call (.ref fa) ⟨[.ref a],[]⟩) (fun r s'=>r=.ok (.ret (.bool true))/\OldK bt.heap s'.heap/\s'.os=bt.os/\AllBare s'.gens) bt:=by
 have rv:=Ac hi
 have ZV:=hi.length
 have core:∀ H:Hp,Dx H->aH K H a (ns.map V.int)->bO P w H bt.heap->(∀ b,H b ≠ none->b=a)->(H a ≠ none->K.lookup a=none) ->
   codeAny (model P w) callerA (.call (.ref fa) ⟨[.ref a],[]⟩) (fun r s'=>r=.ok (.ret (.bool true))/\OldK bt.heap s'.heap/\s'.os=bt.os/\AllBare s'.gens) bt:=by
  intro H hO hS av hA hK
  have Kz:∀ {b:Addr} {o:Obj},bt.heap.get? b=some o->H b=none->(kL bt.heap H).get? b=some o:=fun e n=>UP e n
  have tZ:∀ {b:Addr} {o:Obj} {es:Array DictEntry} {ep:Nat},bt.heap.get? b=some o->o.data=.dict es ep->H b=none:=fun {b o es ep} e d=>by
   cases q:H b with
   |none=>rfl
   |some u =>
    have e':b=a:=hA b (by rw [q];simp)
    subst e'
    rw [ha] at e;cases e
    have d':Data.seq vs.toArray _=Data.dict es ep:=d
    cases d'
  have xD:∀ {b:Addr} {m:Str->Option Value},bt.heap.Ns b m->(kL bt.heap H).Ns b m:=fun {b m} ⟨o,es,ep,e,d,r⟩=>⟨o,es,ep,Kz e (tZ e d),d,r⟩
  have Pz:K.In (kL bt.heap H):=fun b o e=>Kz (KX b o e) (by
   cases q:H b with
   |none=>rfl
   |some u =>
    have e':b=a:=hA b (by rw [q];simp)
    subst e'
    rw [hK (by rw [q];simp)] at e;cases e)
  have hM:Mod K mg (kL bt.heap H):=⟨Pz,xD gS,⟨mb,xD hb,hbb⟩,let ⟨mc,h1,h2⟩:=ZU;⟨mc,xD h1,h2⟩⟩
  have e0:qv P w K mg (kL bt.heap H) callerA [] bt H:=⟨rfl,hM,fun b o e=>VU e,Nat.le_of_eq (T7 _ _),trivial,fun b hb=>absurd (show b ∈ ([]:List Addr) from hb) (by simp),av,.of_eq hg⟩
  refine codeAny_mono ((F _ Pz (xD gS)).run callerA [] bt H ⟨[.ref a],[]⟩ [.ref a] [.ref a] _ _ hr e0 (Zd bt (.ref a)) (.cons rfl .nil) (iG H hO hS)) fun r s' h=>?_
  cases r with
  |error e=>exact (D6 H e s' h).elim
  |ok fl =>
   cases fl with
   |next=>exact False.elim h
   |brk=>exact False.elim h
   |cont=>exact False.elim h
   |ret u =>
    obtain ⟨v,H',os,bare,un,ZW,r',q⟩:=h
    have q':v=.bl true:=q
    subst q'
    obtain rfl:u=Value.bool true:=r'
    refine ⟨rfl,OldK.of_keep fun b o e=>?_,os,bare⟩
    cases q:H b with
    |none=>exact un.keep b o e q (by intro z;exact absurd (show b ∈ ([]:List Addr) from z) (by simp)) (by simp)
    |some u =>
     rcases hO b with z | ⟨ob,xs,z⟩
     ·rw [q] at z;cases z
     ·have z2:=un.dR b ob _ z
      obtain ⟨e1,_⟩:=av b _ z
      obtain ⟨e2,_⟩:=ZW b _ z2
      rw [e] at e1;cases e1
      exact e2
 cases hk:K.lookup a with
 |some o =>
  have e:=KX a o hk
  rw [ha] at e
  cases e
  refine core (fun _=>none) (fun _=>.inl rfl) (.inr ⟨_,vs.toArray,_,hk,rfl,rfl,rfl,by rw [List.size_toArray,ZV];exact hl,by simpa using rv⟩) (fun b u z=>by have z':(none:Option HO)=some u:=z;cases z') (fun b z=>absurd rfl z) fun z=>absurd rfl z
 |none =>
  refine core (fun b=>if b=a then some (.cK { cls:=.type "list",data:=.seq vs.toArray } (.lst (ns.map V.int))) else none) (fun b=>?_) (.inl (.inr ⟨{ cls:=.type "list",data:=.seq vs.toArray },if_pos rfl⟩)) (fun b u z=>?_) (fun b z=>?_) fun _=>hk
  ·by_cases hb:b=a
   ·exact .inr ⟨_,_,if_pos hb⟩
   ·exact .inl (if_neg hb)
  ·by_cases hb:b=a
   ·have z':=(if_pos hb).symm.trans z
    cases z'
    subst hb
    exact ⟨ha,by rw [List.length_map];exact hl,vs,_,rv,ha⟩
   ·have z':=(if_neg hb).symm.trans z
    cases z'
  ·by_cases hb:b=a
   ·exact hb
   ·exact absurd (if_neg hb) z
theorem V4 {l:PySem.W.OpenLaw}{n k:Nat}{q:Program}{loose:List Str}{XP:(Str->Option Value)->Heap->Prop}{YP:World->Heap->Prop}{d:DefRec}{K:Params->PySem.W.Frag}{CX:World->e9}{sp:World->Sp}{x:Str}(hn:l.most=some n)(hn2:n<=sizeLine)(t6:d.params.defaults=[])(hr:cQ k callerA)(hY:∀ (w:World) (h:Heap),YP w h->(K w.params).In h)(F:∀ (w:World) (mg:Str->Option Value) (fa:Addr) (h:Heap),(K w.params).In h->h.Ns mainGlobals mg->mg d.name=some (.ref fa) ->
   ∃ fd:FuncData,(∀ (s:Shared) (u:Value),BindsTo s fd ⟨[u],[]⟩ [(x,u)]) /\
    ∀ base:Heap,(K w.params).In base->base.Ns mainGlobals mg->aM l.prog w (K w.params) mg base (CX w) k fa fd [x] (sp w))(iG:∀ (w:World) (H:Hp) (a:Addr) (ns:List Int),ns.length<=n->Dx H->aH (K w.params) H a (ns.map V.int)->sp w [.ref a] H (fun v _=>v=.bl true) fun _ _ _=>False)(D6:∀ (w:World) (H:Hp) (s:Shared) (e:Value) (s':Shared),CX w [] H s (fun _ _ _=>False) e s'->False) :
  PySem.W.WalkO q loose XP YP l.row.toRowW d [] (fun f vs=>PySem.call f vs):=by
 refine Py.S0 hn t6 fun w cy bt mg mb fa o pm cd doc a vs ns G Y ho hd eC t7 Dw hints hlen hg=>?_
 have KX:=hY w _ Y
 obtain ⟨fd,hb,hF⟩:=F w mg fa _ KX G.T.g t7
 exact UZ KX G.T.g G.T.b G.T.builtins G.T.nolimit hg Dw hints (Nat.le_trans hlen hn2) hr hF hb (fun H hO hS=>iG w H a ns hlen hO hS) fun H e s'=>D6 w H bt e s'
def aX (s:Stmt):Arguments:=match s with
 | .FunctionDef _ a _ _ _ _ _ _ _ _=>a
 |_=>{ posonlyargs:=[],args:=[],vararg:=none,kwonlyargs:=[],kw_defaults:=[],kwarg:=none,defaults:=[] }
def aN (s:Stmt):List Stmt:=match s with
 | .FunctionDef _ _ b _ _ _ _ _ _ _=>b
 |_=>[]
def ah (s:Stmt):Scope:=match s with
 | .FunctionDef _ _ _ _ _ _ sc _ _ _=>sc
 |_=>{ kind:=.function,names:=[],isGenerator:=false,isCoroutine:=false }
abbrev ao:e9:=fun _ _ _ _ _ _=>False
abbrev E0:XK:=fun _ _ _=>False
theorem CB {X:Cx}:Passes ao X E0:=fun _ _ _ _ _ _ _ h=>h.elim
structure bg (K:PySem.W.Frag) (x qual:Str) (st:Stmt) (f:Addr) (fd:FuncData):Prop where
 ex:∃ (oc:Value) (od:Option Addr) (kV doc pm:Value) (an:Option Addr) (aU ct:Value) (gu:Array (Option Value)),
  fd=PySem.W.fnOf x qual (aX st) (aN st) (ah st) .none kV doc pm an aU ct/\K.lookup f=some ⟨oc,od,.func fd,gu⟩/\PySem.W.codeIn K aU qual=true
 kp:PySem.W.keepIn K (.ref f)=true
section
variable {P:Program}{w:World}{K:PySem.W.Frag}{mg:Str->Option Value}{base:Heap}
theorem bg.binds {x qual:Str}{st:Stmt}{f:Addr}{fd:FuncData}{ps:List Str}(F:bg K x qual st f fd)(h:∀ (kV doc pm:Value) (an:Option Addr) (aU ct:Value) (us:List Value),us.length=ps.length->bindArgs (PySem.W.fnOf x qual (aX st) (aN st) (ah st) .none kV doc pm an aU ct) ⟨us,[]⟩=pure (ps.zip us)):Binds K fd ps []:=by
 obtain ⟨oc,od,kV,doc,pm,an,aU,ct,gu,rfl,lk,eC⟩:=F.ex
 exact .all (h kV doc pm an aU ct)
theorem bF {x qual:Str}{st:Stmt}{f:Addr}{oc:Value}{od an:Option Addr}{gu:Array (Option Value)}{kV doc pm aU ct:Value}(l:K.lookup f=some ⟨oc,od,.func (PySem.W.fnOf x qual (aX st) (aN st) (ah st) .none kV doc pm an aU ct),gu⟩)(c:PySem.W.codeIn K aU qual=true)(k:PySem.W.keepIn K (.ref f)=true):bg K x qual st f (PySem.W.fnOf x qual (aX st) (aN st) (ah st) .none kV doc pm an aU ct):=⟨⟨oc,od,kV,doc,pm,an,aU,ct,gu,rfl,l,c⟩,k⟩
end
theorem CC {A:Around}{k:Nat}(hr:cQ k A):A.units+1<cLine:=Nat.lt_of_le_of_lt (Nat.add_le_add_left (by decide : 1<=64) _) hr.units
section
variable {X:Cx}
theorem pv (i:Nat){x:Str}{pos:Pos}(hN:X.N[i]?=some x:=by rfl)(hv:jt X.env.scope x:=by first | exact Or.inl rfl | exact Or.inr (Or.inl rfl) | exact Or.inr (Or.inr rfl))(hd:(x==("__debug__" : Str))=false:=by decide)(eC:(x==("__classdict__" : Str))=false:=by decide):PE X (.Name x pos) (bT i):=ni hN hv hd eC
end
theorem kg {A B:Prop}(h:B):if false=true then A else B:=by
 rw [if_neg Bool.false_ne_true]
 exact h
theorem i6 {A B:Prop}(h:A):if true=true then A else B:=by
 rw [if_pos rfl]
 exact h
def ai (H H':Hp):Prop:=∀ b o,H b=some o->H' b=some o
theorem ai.refl (H:Hp):ai H H:=fun _ _ h=>h
theorem ai.trans {H H1 H2:Hp}(a:ai H H1)(b:ai H1 H2):ai H H2:=fun c o h=>b c o (a c o h)
theorem ai.free {H H':Hp}(e:ai H H'){l:Addr}(h:H' l=Option.none):H l=Option.none:=by
 cases q:H l with
 |none=>rfl
 |some o =>
  rw [e l o q] at h
  cases h
theorem ai.seq {K:PySem.W.Frag}{H H':Hp}{a:Addr}{xs:List V}(e:ai H H')(h:aH K H a xs):aH K H' a xs:=by
 rcases h with (h | ⟨o,h⟩) | h
 ·exact .inl (.inl (e _ _ h))
 ·exact .inl (.inr ⟨o,e _ _ h⟩)
 ·exact .inr h
abbrev cv:Value->Shared->Prop:=fun _ _=>False
theorem xE {α:Type}{M:Model}{A:Around}{m:Sem α}{Q : α->Shared->Prop}{E:Value->Shared->Prop}{s:Shared}(h:wpAny M A m Q cv s):wpAny M A m Q E s :=
 wpAny_mono h (fun _ _ q=>q) fun _ _ z=>z.elim
abbrev jV (ifs:List Expr)(env:Env):Sem Bool :=
 forIn ifs true fun c r=>if r=true then do let ok <- isTrue c env (eval c env);pure (ForInStep.yield ok) else pure (ForInStep.yield r)
theorem BJ {P:Program}{w:World}{A:Around}{R:Result->Shared->Prop}{s:Shared}{elt tg iter:Expr}{ifs:List Expr}{sc:Scope}{pos:Pos}{it acc:Value}{env:Env}(I:Nat->Shared->Prop)(turn:∀ n s,I n s->wpAny (model P w) A (pyNext it) (fun r s1=>match r with
   |none=>R (.ok .next) s1
   |some v=>wpAny (model P w) A (letOwnedTupleGo tg it v) (fun _ s2=>wpAny (model P w) A (assign tg env v) (fun _ s3 =>
     wpAny (model P w) A (jV ifs env) (fun ok s4=>if ok=true then wpAny (model P w) A (eval elt env) (fun x s5 =>
       wpAny (model P w) A (call (.builtin "list.append") [acc,x]) (fun _ s6=>∃ m,m<n/\I m s6) cv s5) cv s4
      else ∃ m,m<n/\I m s4) cv s3) cv s2) cv s1) cv s)(n:Nat)(h:I n s):codeAny (model P w) A (.compLoop (.ListComp elt [⟨tg,iter,ifs,0⟩] sc pos) 0 it acc env) R s:=by
 refine codeAny_loop rfl I (fun n s hI=>?_) n h
 show wpAny (model P w) A ((compTurn (.ListComp elt [⟨tg,iter,ifs,0⟩] sc pos) 0 it acc env).onRaise (fun x=>do noteFrame x env;theTreesLotGoes x)) _ _ s
 refine wpAny_noted (xE ?_)
 rw [compTurn_list]
 refine wpAny_bind (wpAny_standAt (wpAny_bind (ay (turn n s hI) fun r s1 h1=>?_)))
 cases r with
 |none=>exact wpAny_pure h1
 |some v =>
  refine wpAny_bind (ay h1 fun _ s2 h2=>wpAny_bind (ay h2 fun _ s3 h3=>wpAny_bind (ay h3 fun ok s4 h4=>?_)))
  cases ok with
  |false=>exact wpAny_pure ⟨rfl,h4⟩
  |true=>exact wpAny_bind (wpAny_bind (ay h4 fun x s5 h5=>wpAny_bind (ay h5 fun _ s6 h6=>wpAny_pure (wpAny_pure ⟨rfl,h6⟩))))
theorem sj:∀ (names:List (Str×NameKind)) (n:Nat) (acc:List (Str×Addr)) (y:Str),(∃ c,acc.lookup y=some c)->∃ c,(cellsFrom n names acc).lookup y=some c
 |[],_,_,_,h=>h
 |(name,kind)::r,n,acc,y,⟨c,h⟩=>by
  unfold cellsFrom
  split
  ·refine sj r _ _ y ?_
   rw [List.lookup_cons]
   split
   ·exact ⟨_,rfl⟩
   ·exact ⟨c,h⟩
  ·exact sj r _ _ y ⟨c,h⟩
theorem vX:∀ (names:List (Str×NameKind)) (n:Nat) (acc:List (Str×Addr)) (y:Str),(y,NameKind.cell) ∈ names->∃ c,(cellsFrom n names acc).lookup y=some c
 |[],_,_,_,h=>nomatch h
 |(name,kind)::r,n,acc,y,h=>by
  unfold cellsFrom
  rcases List.mem_cons.mp h with e | h
  ·cases e
   rw [if_pos (by decide)]
   exact sj r _ _ _ ⟨n,by rw [List.lookup_cons_self]⟩
  ·split
   ·exact vX r _ _ y h
   ·exact vX r _ _ y h
theorem pq:∀ (names:List (Str×NameKind)) (n:Nat) (acc:List (Str×Addr)) (y:Str) (c:Addr),(cellsFrom n names acc).lookup y=some c->acc.lookup y=some c\/(n<=c/\(y,NameKind.cell) ∈ names)
 |[],_,_,_,_,h=>.inl h
 |(name,kind)::r,n,acc,y,c,h=>by
  unfold cellsFrom at h
  split at h
  ·rename_i hk
   rcases pq r _ _ y c h with q | ⟨q1,q2⟩
   ·rw [List.lookup_cons] at q
    split at q
    ·rename_i hy
     cases q
     rw [beq_iff_eq.mp hy,<- beq_iff_eq.mp hk]
     exact .inr ⟨Nat.le_refl _,.head _⟩
    ·exact .inl q
   ·exact .inr ⟨Nat.le_of_succ_le q1,.tail _ q2⟩
  ·rcases pq r _ _ y c h with q | ⟨q1,q2⟩
   ·exact .inl q
   ·exact .inr ⟨q1,.tail _ q2⟩
theorem BK:∀ (names:List (Str×NameKind)) (n:Nat) (acc:List (Str×Addr)) (y:Str),(y,NameKind.cell) ∉ names->(cellsFrom n names acc).lookup y=acc.lookup y
 |[],_,_,_,_=>rfl
 |(name,kind)::r,n,acc,y,h=>by
  unfold cellsFrom
  have hr:(y,NameKind.cell) ∉ r:=fun z=>h (.tail _ z)
  split
  ·rename_i hk
   rw [BK r _ _ y hr,List.lookup_cons]
   split
   ·rename_i hy
    exact absurd (show (y,NameKind.cell) ∈ (name,kind)::r by rw [beq_iff_eq.mp hy,<- beq_iff_eq.mp hk];exact .head _) h
   ·rfl
  ·exact BK r _ _ y hr
theorem BL:∀ (names:List (Str×NameKind)) (n:Nat) (acc:List (Str×Addr)),(∀ y c,acc.lookup y=some c->c<n)->(∀ y z c,acc.lookup y=some c->acc.lookup z=some c->y=z) ->
  ∀ y z c,(cellsFrom n names acc).lookup y=some c->(cellsFrom n names acc).lookup z=some c->y=z
 |[],_,_,_,h=>h
 |(name,kind)::r,n,acc,h1,h2=>by
  unfold cellsFrom
  split
  ·refine BL r _ _ (fun y c e=>?_) fun y z c e e'=>?_
   ·rw [List.lookup_cons] at e
    split at e
    ·cases e;exact Nat.lt_succ_self _
    ·exact Nat.lt_succ_of_lt (h1 y c e)
   ·rw [List.lookup_cons] at e e'
    split at e
    ·rename_i hy
     cases e
     split at e'
     ·rename_i hz
      rw [beq_iff_eq.mp hy,beq_iff_eq.mp hz]
     ·exact absurd (h1 z _ e') (Nat.lt_irrefl _)
    ·split at e'
     ·cases e'
      exact absurd (h1 y _ e) (Nat.lt_irrefl _)
     ·exact h2 y z c e e'
  ·exact BL r _ _ h1 h2
theorem sk:∀ (names:List (Str×NameKind)) (h:Heap) (acc:List (Str×Addr)) (y:Str) (c:Addr),(cellsFrom h.objs.size names acc).lookup y=some c->acc.lookup y=some c\/(pushCells h names).IsCell c none
 |[],_,_,_,_,e=>.inl e
 |(name,kind)::r,h,acc,y,c,e=>by
  unfold cellsFrom at e
  unfold pushCells
  split
  ·rename_i hk
   rw [if_pos hk] at e
   rw [show h.objs.size+1=(h.push { cls:=.type "cell",data:=.cell none }).objs.size from (Heap.size_push ..).symm] at e
   rcases sk r _ _ y c e with q | q
   ·rw [List.lookup_cons] at q
    split at q
    ·cases q
     exact .inr (Heap.IsCell.keeps ⟨_,Heap.get?_push_size _ rfl,rfl⟩ (pushCells_keeps r _))
    ·exact .inl q
   ·exact .inr q
  ·rename_i hk
   rw [if_neg hk] at e
   exact sk r _ _ y c e
theorem zF {M:Model}{A:Around}{E:Value->Shared->Prop}{s:Shared}{scope:Scope}{globals:Addr}{cl:List (Str×Addr)}{qual:Str}{func:Option Addr}{code:Value}{env:Env}{builtins:Addr}{Q:Env->Shared->Prop}(hQ:Q (newEnv scope s.heap.objs.size globals (cellsFrom (s.heap.objs.size+1) scope.names cl) qual func code (some env) builtins) { s with heap:=pushCells (s.heap.push { cls:=.type "dict",data:=.dict #[] }) scope.names }) :
  wpAny M A (newFunctionEnv scope globals cl [] qual func code (some env) builtins) Q E s:=by
 simp only [newFunctionEnv,Option.isSome_some,if_true]
 refine wpAny_bind (wpAny_alloc ?_)
 refine wpAny_bind (wpAny_layCells _ (fun name kind cells=>by cases hkc:kind==NameKind.cell<;>simp [hkc]) _ _ _ _ ?_)
 rw [show ({ s with heap:=s.heap.push { cls:=.type "dict",data:=.dict #[] } }:Shared).heap.objs.size=s.heap.objs.size+1 from Heap.size_push ..]
 rw [List.forIn_nil]
 exact wpAny_bind (wpAny_pure (wpAny_pure hQ))
def bU (X:Cx)(own:List Str)(fr:List Nat)(sc:Scope)(cl:List (Str×Addr))(C:Addr)(s:Shared)(H:Hp)(ex:List Addr)(pn:List (Addr×Obj)):Cx where
 prog:=X.prog
 w:=X.w
 K:=X.K
 mg:=X.mg
 base:=X.base
 A:=X.A
 N:=own++fr.map fun j=>X.N.getD j ""
 cy:=s
 tG:=H
 env:=compEnvC sc (cellsFrom (C+1) sc.names cl) C X.env
 outer:=X.stack
 stack:=X.stack
 ex:=ex
 fn:=fun y=>(cl.lookup y).isNone
 calm:=X.calm
 pn:=pn
 xe:=cv
def so (own:List Str)(fr:List Nat)(σ:St):St:=own.map (fun _=>none)++fr.map fun j=>(σ[j]?).join
structure hJ (X:Cx) (sc:Scope) (cl:List (Str×Addr)) (fr:List Nat):Prop where
 wR:closureFor sc X.env=pure cl
 kind:sc.kind=.function
 cells:∀ y,(y,NameKind.cell) ∈ sc.names->cl.lookup y=none
 names:∀ y ∈ sc.names,y.2=.local->sc.names.lookup y.1=some .local
 sub:∀ y c,cl.lookup y=some c->X.env.cells.lookup y=some c
 has:∀ y,((relabel sc X.env).names.lookup y=some .cell\/(relabel sc X.env).names.lookup y=some .free)->(∃ c,cl.lookup y=some c)\/(y,NameKind.cell) ∈ sc.names
 PB:∀ j ∈ fr,∃ y,X.N[j]?=some y/\((relabel sc X.env).names.lookup y=some .cell\/(relabel sc X.env).names.lookup y=some .free)/\jt X.env.scope y/\X.env.scope.names.lookup y ≠ some .local/\∃ c,cl.lookup y=some c
def qK (wi:TI)(g:TG)(tt:TT)(te:TE)(own:List Str)(fr:List Nat):TE:=fun σ H Q=>wi σ H fun J H1=>∀ acc,H1 acc=none ->
 ∃ W:Nat->Nat->List V->St->Hp->Prop,(∃ m,W 0 m [] (so own fr σ) (upd H1 acc (.lst [])))/\∀ i m ys aA H2,W i m ys aA H2->H2 acc=some (.lst ys)/\ys.length<sizeLine /\
  ((J.stop i H2/\Q (.ref acc) H2)\/(J.go i H2/\∃ N:List V->St->Hp->Prop,(∀ zs bp H3,N zs bp H3->∃ m',m'<m/\W (i+1) m' zs bp H3) /\
   ∀ x H3,J.mH i H2 x H3->g x aA H3 fun bp H4=>tt bp H4 fun b H5=>if b=true then te bp H5 (fun y H6=>H6 acc=some (.lst ys)/\N (ys++[y]) bp (upd H6 acc (.lst (ys++[y])))) else N ys bp H5))
theorem V5 {N:List Str}{j:Nat}{y:Str}(h:N[j]?=some y):N.getD j "" = y:=by rw [List.getD_eq_getElem?_getD,h];rfl
theorem lcInv {X:Cx}{pins:List (Addr×Obj)}{σ:St}{H:Hp}{s:Shared}{sc:Scope}{cl:List (Str×Addr)}{own:List Str}{fr:List Nat}{fp:List Addr}{h4:Heap}{tk:Nat}(L:hJ X sc cl fr)(I:Inv X pins σ H s)(xF:∀ b ∈ fp,eZ X pins H b)(aZ:∀ b ∈ fp,b<s.heap.objs.size)(gS:h4.Ns s.heap.objs.size fun _=>none)(kp:∀ b o,s.heap.get? b=some o->h4.get? b=some o)(kr:∀ y c,(cellsFrom (s.heap.objs.size+1) sc.names cl).lookup y=some c->cl.lookup y=some c\/h4.IsCell c none):Inv (bU X own fr sc cl s.heap.objs.size s H fp (X.pn++pins)) [] (so own fr σ) H { s with heap:=h4,toks:=tk }:=by
 have noL:∀ {b:Addr} {o:Obj},s.heap.get? b=some o->b ≠ s.heap.objs.size:=fun e=>Nat.ne_of_lt (Heap.lt_size e)
 have hex:∀ b ∈ (bU X own fr sc cl s.heap.objs.size s H fp (X.pn++pins)).ex,b ∈ fp:=fun b z=>z
 have jd:∀ b,b ≠ X.env.locals->b ∉ X.fs->b ∉ bG X.stack:=fun b h1 h2 z=>(List.mem_cons.mp (I.lR b z)).elim h1 h2
 have LK:∀ y c,cl.lookup y=some c->∃ v,s.heap.IsCell c v:=fun y c e=>I.cell y c (L.sub y c e)
 have split:∀ y c,(cellsFrom (s.heap.objs.size+1) sc.names cl).lookup y=some c->cl.lookup y=some c\/s.heap.objs.size+1<=c:=fun y c e=>(pq _ _ _ y c e).imp id And.left
 refine ⟨⟨I.ok.mod,L.kind,I.ok.glob,I.ok.blt,Nat.le_refl _,BL _ _ _ (fun y c e=>by obtain ⟨v,q⟩:=LK y c e;exact Nat.lt_succ_of_lt q.lt) (fun y z c h1 h2=>I.ok.inj y z c (L.sub y c h1) (L.sub z c h2)),fun y hy=>(L.has y hy).elim (sj _ _ _ y) (vX _ _ _ y),fun y c hy e=>?_,I.ok.hd,I.ok.frames,.inl rfl,
   fun b hb=>⟨Nat.ne_of_lt (aZ b (hex b hb)),fun y c e=>(split y c e).elim (fun q=>(xF b (hex b hb)).2.2.2.2.1 y c (L.sub y c q)) fun q=>Nat.ne_of_gt (Nat.lt_of_lt_of_le (aZ b (hex b hb)) (Nat.le_of_succ_le q))⟩,I.bs,Nat.le_trans I.ok.iE I.sz,fun b o e z=>?_,fun b z=>?_,I.stack,I.A8⟩,
  rfl,I.bare,Un.kept kp,⟨_,gS,fun i y v h1 h2 h3=>?_⟩,fun y c e=>?_,I.av.fresh (Nat.le_refl _),fun y c e=>(split y c e).elim (fun q=>I.fA y c (L.sub y c q)) fun q=>I.av.fresh (Nat.le_of_succ_le q),fun p hp=>?_,I.av.kept kp,?_⟩
 ·have cW:(cl.lookup y).isNone=true:=hy
  rcases split y c e with q | q
  ·rw [q] at cW
   cases cW
  ·exact Nat.le_of_succ_le q
 ·rcases (xF b (hex b z)).2.2.2.1 with q | q
  ·exact I.ok.ke b o e q
  ·exact absurd (Nat.lt_of_lt_of_le (Heap.lt_size (I.ok.bs b o e).1) q) (Nat.lt_irrefl _)
 ·exact jd b (xF b (hex b z)).2.1 (xF b (hex b z)).2.2.1
 ·have qL:(own++fr.map fun j=>X.N.getD j "")[i]?=some y:=h1
  have jA:(own.map (fun _=>none)++fr.map fun j=>(σ[j]?).join)[i]?=some (some v):=h2
  by_cases hi:i<own.length
  ·rw [List.getElem?_append_left (by simpa using hi),List.getElem?_map] at jA
   cases q:own[i]? with
   |none=>rw [q] at jA;cases jA
   |some z=>rw [q] at jA;cases jA
  ·rw [List.getElem?_append_right (by omega),List.getElem?_map] at qL
   rw [List.getElem?_append_right (by simpa using hi),List.getElem?_map,List.length_map] at jA
   cases q:fr[i-own.length]? with
   |none=>rw [q] at qL;cases qL
   |some j =>
    rw [q] at qL jA
    obtain ⟨y',n1,n2,n3,n4,c',e'⟩:=L.PB j (List.mem_of_getElem? q)
    have ey:y'=y:=by
     have this:X.N.getD j "" = y:=Option.some.inj qL
     rw [V5 n1] at this
     exact this
    subst ey
    have ev : σ[j]?=some (some v):=by
     have z:(σ[j]?).join=some v:=Option.some.inj jA
     cases q2 : σ[j]? with
     |none=>rw [q2] at z;cases z
     |some o=>rw [q2] at z;exact congrArg some z
    obtain ⟨m,_,hl⟩:=I.loc
    obtain ⟨u,r,l⟩:=hl j y' v n1 ev n3
    refine ⟨u,r,.inr ⟨n2,?_⟩⟩
    rcases l with ⟨k,_⟩ | ⟨_,c,e,z⟩
    ·exact absurd k n4
    ·have:=L.sub y' c' e'
     rw [e] at this
     cases this
     obtain ⟨o,ho,hd⟩:=z
     exact ⟨_,(BK _ _ _ y' fun z=>by rw [L.cells y' z] at e';cases e').trans e',o,kp _ o ho,hd⟩
 ·rcases kr y c e with q | q
  ·obtain ⟨v,o,ho,hd⟩:=LK y c q
   exact ⟨v,o,kp c o ho,hd⟩
  ·exact ⟨none,q⟩
 ·have xG:p ∈ X.pn++pins:=by
   have z:p ∈ (X.pn++pins)++[]:=hp
   simpa using z
  obtain ⟨e,n,ne,nf,d⟩:=I.pin p xG
  exact ⟨kp _ _ e,n,noL e,jd _ ne nf,d⟩
 ·show (own.map (fun _=>(none:Option V))++fr.map fun j=>(σ[j]?).join).length=(own++fr.map fun j=>X.N.getD j "").length
  simp
theorem M0 {X:Cx}{elt tg iter:Expr}{ifs:List Expr}{sc:Scope}{cl:List (Str×Addr)}{own:List Str}{fr:List Nat}{pos:Pos}{wi:TI}{g:TG}{tt:TT}{te:TE}(L:hJ X sc cl fr)(hc:X.calm=true)(hi:PI X tg iter wi)(hg:∀ C s H ex pn,PG (bU X own fr sc cl C s H ex pn) tg g)(ht:∀ C s H ex pn (pins:List (Addr×Obj)) (s1:Shared) (aA:St) (H1:Hp) (Q:Bool->Hp->Prop),Inv (bU X own fr sc cl C s H ex pn) pins aA H1 s1->tt aA H1 Q ->
   wpAny (model X.prog X.w) X.A (jV ifs (compEnvC sc (cellsFrom (C+1) sc.names cl) C X.env)) (TP (bU X own fr sc cl C s H ex pn) pins aA Q) cv s1)(he:∀ C s H ex pn,PE (bU X own fr sc cl C s H ex pn) elt te)(hs:∀ x,foldedSetIterable iter X.env x=pure x:=by intro _;rfl) :
  PE X (.ListComp elt [⟨tg,iter,ifs,0⟩] sc pos) (qK wi g tt te own fr):=by
 intro pins s σ H Q I h
 rw [eval_ListComp]
 refine wpAny_comprehension_free (use:=none) rfl hs L.wR L.kind L.names (ay (hi pins s σ H _ I h) fun v s1 h1=>ay h1 fun nU s2 h2=>?_)
 obtain ⟨it,fp,tn,J,H2,e,I2,T,aD,f2,h2⟩:=h2
 subst e
 refine wpAny_newObj_type ?_
 have I3:Inv X pins σ (upd H2 s2.heap.objs.size (.lst [])) { s2 with heap:=s2.heap.push { cls:=.type "list",data:=.seq ([]:List Value).toArray } }:=I2.wN (t':=s2.toks) .nil (Nat.zero_le _)
 have n2:H2 s2.heap.objs.size=none:=I2.fresh
 obtain ⟨W,⟨m0,w0⟩,turn⟩:=h2 _ n2
 have nX:∀ b ∈ fp,b<s2.heap.objs.size:=fun b hb=>by
  obtain ⟨o,eo,_⟩:=T.obj 0 _ aD b hb
  exact Heap.lt_size eo
 have bV:∀ b ∈ fp,eZ X pins (upd H2 s2.heap.objs.size (.lst [])) b:=fun b hb=>⟨by rw [aP (Nat.ne_of_lt (nX b hb))];exact (f2 b hb).1,(f2 b hb).2⟩
 generalize fc:({ s2 with heap:=s2.heap.push { cls:=.type "list",data:=.seq ([]:List Value).toArray } }:Shared)=s3 at I3
 have de:tn 0 s3.heap:=by
  rw [<- fc]
  exact T.keep 0 _ _ aD fun b hb o eo=>Heap.get?_push_of_some _ eo
 have jB:∀ b ∈ fp,b<s3.heap.objs.size:=fun b hb=>by
  obtain ⟨o,eo,_⟩:=T.obj 0 _ de b hb
  exact Heap.lt_size eo
 generalize t8:upd H2 s2.heap.objs.size (.lst [])=H3 at I3 bV w0
 generalize s2.heap.objs.size=acc at turn w0 t8 ⊢
 refine zF ?_
 have gS:(pushCells (s3.heap.push { cls:=.type "dict",data:=.dict #[] }) sc.names).Ns s3.heap.objs.size fun _=>none:=(Heap.Ns.new s3.heap (.type "dict")).keeps (pushCells_keeps _ _)
 have kp:∀ b o,s3.heap.get? b=some o->(pushCells (s3.heap.push { cls:=.type "dict",data:=.dict #[] }) sc.names).get? b=some o:=fun b o eo=>pushCells_keeps _ _ b o (Heap.get?_push_of_some _ eo)
 have kr:∀ y c,(cellsFrom (s3.heap.objs.size+1) sc.names cl).lookup y=some c->cl.lookup y=some c\/(pushCells (s3.heap.push { cls:=.type "dict",data:=.dict #[] }) sc.names).IsCell c none:=fun y c e =>
  sk sc.names (s3.heap.push { cls:=.type "dict",data:=.dict #[] }) cl y c (by rw [Heap.size_push];exact e)
 generalize PC:pushCells (s3.heap.push { cls:=.type "dict",data:=.dict #[] }) sc.names=h4 at gS kp kr
 have I4:=lcInv (own:=own) (tk:=s3.toks) L I3 bV jB gS kp kr
 have mK:tn 0 h4:=T.keep 0 _ _ de fun b hb o eo=>kp b o eo
 have stat:∀ {H':Hp},(∀ b ∈ fp,H' b=none)->∀ b ∈ fp,eZ (bU X own fr sc cl s3.heap.objs.size s3 H3 fp (X.pn++pins)) [] H' b:=fun {H'} hn b hb =>
  ⟨hn b hb,Nat.ne_of_lt (jB b hb),fun z=>(List.mem_cons.mp (I3.lR b z)).elim (bV b hb).2.1 (bV b hb).2.2.1,.inl hb,fun y c e=>(pq _ _ _ y c e).elim (fun q=>(bV b hb).2.2.2.2.1 y c (L.sub y c q)) fun q=>Nat.ne_of_gt (Nat.lt_of_lt_of_le (jB b hb) (Nat.le_of_succ_le q.1)),fun p hp=>(bV b hb).2.2.2.2.2 p (by
   have z:p ∈ (X.pn++pins)++[]:=hp
   simpa using z)⟩
 have loop:codeAny (model X.prog X.w) X.A (.compLoop (.ListComp elt [⟨tg,iter,ifs,0⟩] sc pos) 0 (.ref it) (.ref acc) (compEnvC sc (cellsFrom (s3.heap.objs.size+1) sc.names cl) s3.heap.objs.size X.env))
   (compPost (model X.prog X.w) X.A X.xe none (EP X pins σ Q) (.ref acc) s3.heap.objs.size) { s3 with heap:=h4,toks:=s3.toks }:=by
  refine BJ (fun n s'=>∃ i ys aA H1,Inv (bU X own fr sc cl s3.heap.objs.size s3 H3 fp (X.pn++pins)) [] aA H1 s'/\tn i s'.heap/\(∀ b ∈ fp,H1 b=none)/\W i n ys aA H1) ?_ m0 ⟨0,[],_,H3,I4,mK,fun b hb=>(bV b hb).1,w0⟩
  rintro n s5 ⟨i,ys,gT,H5,I5,jf,kq,w5⟩
  obtain ⟨dg,hlen,hh⟩:=turn i n ys gT H5 w5
  rcases hh with ⟨stop,qn⟩ | ⟨go,N,hN,step⟩
  ·refine ay (T.done (bU X own fr sc cl s3.heap.objs.size s3 H3 fp (X.pn++pins)) rfl rfl rfl hc i [] s5 gT H5 cv I5 (stat kq) jf stop) fun r s6 ⟨hr,I6⟩=>?_
   subst hr
   obtain ⟨m6,t9,_⟩:=id I6.loc
   refine ⟨m6,t9,fun h7 gU=>⟨.ref acc,H5,?_,rfl,qn⟩⟩
   have old:∀ b o,s3.heap.get? b=some o->b ≠ s3.heap.objs.size:=fun b o eo=>Nat.ne_of_lt (Heap.lt_size eo)
   have u6:Un (bG X.stack) fp H3 H5 s3.heap s6.heap:=I6.base
   have u7:Un (bG X.stack) fp H3 H5 s3.heap h7 :=
    ⟨fun b o eo nn hb hx=>(gU.2 b (old b o eo)).trans (u6.keep b o eo nn hb hx),fun b o eo nn hb hx=>by
     obtain ⟨sl,q⟩:=u6.slot b o eo nn hb hx
     exact ⟨sl,(gU.2 b (old b o eo)).trans q⟩,u6.free,fun b o eo hx=>by
     obtain ⟨o',q⟩:=u6.there b o eo hx
     exact ⟨o',(gU.2 b (old b o eo)).trans q⟩,u6.eh,u6.dR,u6.eu⟩
   have fC:H5 s3.heap.objs.size=none:=I6.free
   have tI:bO X.prog X.w H5 h7:=fun b ob eb=>by
    refine (I6.av b ob eb).iq (fun c w' gR q=>(gU.2 c ?_).trans q) (fun _ q=>q) fun _ _ q=>q
    rintro rfl
    rcases gR with z | z
    ·rw [<- z,fC] at eb;cases eb
    ·rw [fC] at z;cases z
   exact I3.wm (s':={ s6 with heap:=h7 }) I6.os u7 tI I6.bare fun b hb=>⟨(bV b hb).2.2.2.1,(bV b hb).2.1,(bV b hb).2.2.2.2.1,(bV b hb).2.2.2.2.2⟩
  ·refine ay (T.item (bU X own fr sc cl s3.heap.objs.size s3 H3 fp (X.pn++pins)) rfl rfl rfl hc i [] s5 gT H5 cv I5 (stat kq) jf go) fun r s6 ⟨u,hr,h6⟩=>?_
   subst hr
   refine ay h6 fun _ s7 ⟨x,H7,I7,r7,y7,jC,ua⟩=>?_
   have ub:=I7.pinned (stat ua) (T.obj _ _ jC)
   refine ay (hg _ _ _ _ _ _ s7 gT H7 x u _ ub r7 (step x H7 y7)) fun _ s8 ⟨gV,H8,I8,q8⟩=>?_
   have again:∀ {zs:List V} {cz:St} {H9:Hp} {s9:Shared},Inv (bU X own fr sc cl s3.heap.objs.size s3 H3 fp (X.pn++pins)) ([]++nk fp s7.heap) cz H9 s9->N zs cz H9 ->
     ∃ m,m<n/\∃ i ys aA H1,Inv (bU X own fr sc cl s3.heap.objs.size s3 H3 fp (X.pn++pins)) [] aA H1 s9/\tn i s9.heap/\(∀ b ∈ fp,H1 b=none)/\W i m ys aA H1:=fun {zs cz H9 s9} I9 n9=>by
    obtain ⟨m',hm,w9⟩:=hN zs cz H9 n9
    refine ⟨m',hm,i+1,zs,cz,H9,I9.pC,T.keep _ _ _ jC fun b hb o e=>(I9.pin (b,o) (List.mem_append_right _ (List.mem_append_right _ (lL hb e)))).1,fun b hb=>?_,w9⟩
    obtain ⟨o,e,d⟩:=T.obj _ _ jC b hb
    exact (I9.pin (b,o) (List.mem_append_right _ (List.mem_append_right _ (lL hb e)))).2.1
   refine ay (ht _ _ _ _ _ _ s8 gV H8 _ I8 q8) fun ok s9 ⟨H9,I9,q9⟩=>?_
   cases ok with
   |false=>exact again I9 (by simpa using q9)
   |true =>
    refine ay (he _ _ _ _ _ _ s9 gV H9 _ I9 q9) fun z kW ⟨y,uc,iJ,ud,kX,uf⟩=>?_
    refine ay (mY _ kW gV uc (.ref acc) [y] (.ref acc) [z] (fun _ H'=>N (ys++[y]) gV H') iJ rfl (.cons ud .nil) ⟨acc,ys,y,rfl,rfl,kX,hlen,uf⟩) fun _ PD ⟨_,PF,ug,_,uh⟩=>again ug uh
 rw [<- fc] at loop ⊢
 exact codeAny_compStart_list loop (xE (T.self _ 0 _ _ _ mK (by rw [fc];rw [fc] at loop;exact loop)))
theorem V6 {n:Int}{k:Nat}(h:n.natAbs<2 ^ k)(hk : 0<k):n.natAbs.log2<k:=by
 by_cases z:n.natAbs=0
 ·rw [z]
  show Nat.log2 0<k
  rw [Nat.log2_zero]
  exact hk
 ·exact (Nat.log2_lt z).mpr h
section
variable {X:Cx}
def M1 (i j:Int):Prop:=i.natAbs<2 ^ 8000/\j.natAbs<2 ^ 8000
theorem V7:cV X (binaryOp .Mult) (rI M1 fun i j=>.int (i*j)):=D2 fun _ _ _ _ _ _ _ hc q =>
 mul_int q (IntMulOk.of_le (intBits_le_iff.mpr hc.1) (intBits_le_iff.mpr hc.2) (by decide))
def sU (_ j:Int):Prop:=0<j/\j.natAbs<2 ^ 8000
theorem U0:cV X (binaryOp .FloorDiv) (rI sU fun i j=>.int (i / j)):=D2 fun i j _ _ _ _ _ hc q=>by
 have h1:(0:Int)<j:=hc.1
 refine floordiv_int (by omega) (by rw [Int.fdiv_eq_ediv_of_nonneg i (by omega)];exact q) (.inl (PyProof.noPylong_of_log2 ?_))
 exact Nat.lt_trans (V6 hc.2 (by decide)) (by decide)
theorem Tq {hi c:Int}(h0 : 0<=hi)(h1:hi<2 ^ 30)(c0 : 0<c)(c1:c<2 ^ 30):Builtin.Range.small 0 hi c=true:=by
 unfold Builtin.Range.small
 rw [rangeSize_pos (by omega) h0]
 have a0 : 0<=(hi+c-1) / c:=Int.ediv_nonneg (by omega) (by omega)
 have a1:(hi+c-1) / c*c<=hi+c-1:=Int.ediv_mul_le _ (by omega)
 have a2:(hi+c-1) / c<=hi+c-1:=Int.ediv_le_self _ (by omega)
 have a3:(0:Int)<=(hi+c-1) / c*c:=Int.mul_nonneg a0 (by omega)
 have cc:c > 0:=c0
 simp only [Builtin.Range.rangeFitsLong,Bool.and_eq_true,Bool.or_eq_true,decide_eq_true_eq,beq_iff_eq,cc,if_true]
 generalize (hi+c-1) / c*c=p at *
 generalize (hi+c-1) / c=q at *
 omega
end
inductive Dv where
 |fl (v:V)
 |lst (ds:List Dv)
 |tup (ds:List Dv)
mutual
def cN:Dv->Dv->Bool
 | .fl x,.fl y=>fF x y
 | .lst a,.lst b=>fS a b
 | .tup a,.tup b=>fS a b
 |_,_=>false
def fS:List Dv->List Dv->Bool
 |[],[] => true
 |x::r,y::q=>cN x y&&fS r q
 |_,_=>false
end
mutual
def dI:Dv->Nat
 | .fl _=>0
 | .lst a=>dh a+1
 | .tup a=>dh a+1
def dh:List Dv->Nat
 |[] => 0
 |x::r=>max (dI x) (dh r)
end
mutual
def Hv (K:PySem.W.Frag)(H:Hp):Dv->V->Prop
 | .fl v,x=>x=v/\eX v=true
 | .lst ds,x=>∃ a xs,x=.ref a/\aH K H a xs/\aO K H ds xs
 | .tup ds,x=>∃ a xs,x=.ref a/\cM K H a xs/\aO K H ds xs
def aO (K:PySem.W.Frag)(H:Hp):List Dv->List V->Prop
 |[],xs=>xs=[]
 |d::ds,xs=>∃ x r,xs=x::r/\Hv K H d x/\aO K H ds r
end
theorem Jy {v:V}(h:eX v=true):fF v v=true:=by
 cases v<;>first | rfl | (simp [fF];done) | (exact absurd h (by decide)) | (cases h)
section
variable {X:Cx}{pins:List (Addr×Obj)}{σ:St}{H:Hp}{s:Shared}
theorem Jz (I:Inv X pins σ H s){a:Addr}{xs ys:List V}(h1:aH X.K H a xs)(h2:cM X.K H a ys):False:=by
 obtain ⟨i1,_,p1,_⟩:=I.list h1
 obtain ⟨i2,_,p2,_⟩:=I.tuple h2
 exact SeqAt.ne_of_list_tuple p1.isList p2 rfl
mutual
theorem Be (I:Inv X pins σ H s):∀ (d e:Dv) (x:V),Hv X.K H d x->Hv X.K H e x->cN d e=true
 | .fl v,.fl w,x,h1,h2=>by
  obtain ⟨rfl,f⟩:=h1
  obtain ⟨rfl,_⟩:=h2
  exact Jy f
 | .fl v,.lst es,x,h1,h2=>by
  obtain ⟨rfl,f⟩:=h1
  obtain ⟨a,xs,rfl,_⟩:=h2
  cases f
 | .fl v,.tup es,x,h1,h2=>by
  obtain ⟨rfl,f⟩:=h1
  obtain ⟨a,xs,rfl,_⟩:=h2
  cases f
 | .lst ds,.fl v,x,h2,h1=>by
  obtain ⟨rfl,f⟩:=h1
  obtain ⟨a,xs,rfl,_⟩:=h2
  cases f
 | .tup ds,.fl v,x,h2,h1=>by
  obtain ⟨rfl,f⟩:=h1
  obtain ⟨a,xs,rfl,_⟩:=h2
  cases f
 | .lst ds,.lst es,x,h1,h2=>by
  obtain ⟨a,xs,rfl,q,r⟩:=h1
  obtain ⟨b,ys,e,q',r'⟩:=h2
  cases e
  have:=I.Jx q q'
  subst this
  exact AA I ds es xs r r'
 | .tup ds,.tup es,x,h1,h2=>by
  obtain ⟨a,xs,rfl,q,r⟩:=h1
  obtain ⟨b,ys,e,q',r'⟩:=h2
  cases e
  have:=I.T8 q q'
  subst this
  exact AA I ds es xs r r'
 | .lst ds,.tup es,x,h1,h2=>by
  obtain ⟨a,xs,rfl,q,r⟩:=h1
  obtain ⟨b,ys,e,q',r'⟩:=h2
  cases e
  exact (Jz I q q').elim
 | .tup ds,.lst es,x,h1,h2=>by
  obtain ⟨a,xs,rfl,q,r⟩:=h1
  obtain ⟨b,ys,e,q',r'⟩:=h2
  cases e
  exact (Jz I q' q).elim
theorem AA (I:Inv X pins σ H s):∀ (ds es:List Dv) (xs:List V),aO X.K H ds xs->aO X.K H es xs->fS ds es=true
 |[],[],_,_,_=>rfl
 |[],e::es,xs,h1,h2=>by
  obtain rfl:xs=[]:=h1
  obtain ⟨x,r,z,_⟩:=h2
  cases z
 |d::ds,[],xs,h1,h2=>by
  obtain rfl:xs=[]:=h2
  obtain ⟨x,r,z,_⟩:=h1
  cases z
 |d::ds,e::es,xs,h1,h2=>by
  obtain ⟨x,r,rfl,a,b⟩:=h1
  obtain ⟨x',r',z,a',b'⟩:=h2
  cases z
  show (cN d e&&fS ds es)=true
  rw [Be I d e x a a',AA I ds es r b b']
  rfl
end
theorem aO.length {K:PySem.W.Frag}{H:Hp}:∀ {ds:List Dv} {xs:List V},aO K H ds xs->ds.length=xs.length
 |[],xs,h=>by
  obtain rfl:xs=[]:=h
  rfl
 |d::ds,xs,h=>by
  obtain ⟨x,r,rfl,_,b⟩:=h
  rw [List.length_cons,List.length_cons,aO.length b]
theorem m5:∀ {ds es:List Dv},ds.length ≠ es.length->fS ds es=false
 |[],[],h=>absurd rfl h
 |[],_::_,_=>rfl
 |_::_,[],_=>rfl
 |d::ds,e::es,h=>by
  show (cN d e&&fS ds es)=false
  rw [m5 (ds:=ds) (es:=es) (by simpa using h),Bool.and_false]
def iX (ds es:List Dv)(j:Nat):Bool:=match ds[j]?,es[j]? with
 |some d,some e=>cN d e
 |_,_=>false
theorem mZ:∀ {ds es:List Dv},ds.length=es.length->(List.range ds.length).all (iX ds es)=fS ds es
 |[],[],_=>rfl
 |[],_::_,h=>by cases h
 |_::_,[],h=>by cases h
 |d::ds,e::es,h=>by
  rw [List.length_cons,List.range_succ_eq_map,List.all_cons,List.all_map]
  show (cN d e&&(List.range ds.length).all (iX (d::ds) (e::es) ∘ Nat.succ))=(cN d e&&fS ds es)
  congr 1
  exact mZ (ds:=ds) (es:=es) (by simpa using h)
mutual
theorem X1 (I:Inv X pins σ H s):∀ (d e:Dv) (A:Around) (x y:V) (u v:Value),A.units+dI d<cLine->Hv X.K H d x->Hv X.K H e y->RelV x u->RelV y v->SeqAt.EqAt A s u v (cN d e)
 | .fl a,.fl b,A,x,y,u,v,hu,h1,h2,rx,ry=>by
  obtain ⟨rfl,f1⟩:=h1
  obtain ⟨rfl,f2⟩:=h2
  exact LI rx ry f1 f2
 | .fl a,.lst es,A,x,y,u,v,hu,h1,h2,rx,ry=>by
  obtain ⟨rfl,f1⟩:=h1
  obtain ⟨b,ys,rfl,q,r⟩:=h2
  cases ry
  obtain ⟨its,_,pl,_⟩:=I.list q
  have bh:A.units<cLine:=hu
  cases x with
  |aS=>cases rx;exact SeqAt.EqAt.none_list pl.isList bh
  |bl c=>cases rx;exact SeqAt.EqAt.bool_list c pl.isList bh
  |int c=>obtain ⟨t,rfl⟩:=rx;exact SeqAt.EqAt.int_list c t pl.isList bh
  |str c=>obtain ⟨t,rfl⟩:=rx;exact SeqAt.EqAt.str_list c t pl.isList bh
  |_=>cases f1
 | .fl a,.tup es,A,x,y,u,v,hu,h1,h2,rx,ry=>by
  obtain ⟨rfl,f1⟩:=h1
  obtain ⟨b,ys,rfl,q,r⟩:=h2
  cases ry
  obtain ⟨its,_,pl,_⟩:=I.tuple q
  have bh:A.units<cLine:=hu
  cases x with
  |aS=>cases rx;exact SeqAt.EqAt.none_tuple pl bh
  |bl c=>cases rx;exact SeqAt.EqAt.bool_tuple c pl bh
  |int c=>obtain ⟨t,rfl⟩:=rx;exact SeqAt.EqAt.int_tuple c t pl bh
  |str c=>obtain ⟨t,rfl⟩:=rx;exact SeqAt.EqAt.str_tuple c t pl bh
  |_=>cases f1
 | .lst ds,.fl b,A,x,y,u,v,hu,h1,h2,rx,ry=>by
  obtain ⟨rfl,f2⟩:=h2
  obtain ⟨a,xs,rfl,q,r⟩:=h1
  cases rx
  obtain ⟨its,_,pl,_⟩:=I.list q
  have bh:A.units<cLine:=Nat.lt_of_le_of_lt (Nat.le_add_right _ _) hu
  cases y with
  |aS=>cases ry;exact SeqAt.EqAt.list_none pl.isList bh
  |bl c=>cases ry;exact SeqAt.EqAt.list_bool c pl.isList bh
  |int c=>obtain ⟨t,rfl⟩:=ry;exact SeqAt.EqAt.list_int c t pl.isList bh
  |str c=>obtain ⟨t,rfl⟩:=ry;exact SeqAt.EqAt.list_str c t pl.isList bh
  |_=>cases f2
 | .tup ds,.fl b,A,x,y,u,v,hu,h1,h2,rx,ry=>by
  obtain ⟨rfl,f2⟩:=h2
  obtain ⟨a,xs,rfl,q,r⟩:=h1
  cases rx
  obtain ⟨its,_,pl,_⟩:=I.tuple q
  have bh:A.units<cLine:=Nat.lt_of_le_of_lt (Nat.le_add_right _ _) hu
  cases y with
  |aS=>cases ry;exact SeqAt.EqAt.tuple_none pl bh
  |bl c=>cases ry;exact SeqAt.EqAt.tuple_bool c pl bh
  |int c=>obtain ⟨t,rfl⟩:=ry;exact SeqAt.EqAt.tuple_int c t pl bh
  |str c=>obtain ⟨t,rfl⟩:=ry;exact SeqAt.EqAt.tuple_str c t pl bh
  |_=>cases f2
 | .lst ds,.tup es,A,x,y,u,v,hu,h1,h2,rx,ry=>by
  obtain ⟨a,xs,rfl,q,r⟩:=h1
  obtain ⟨b,ys,rfl,q',r'⟩:=h2
  cases rx
  cases ry
  obtain ⟨_,_,p1,_⟩:=I.list q
  obtain ⟨_,_,p2,_⟩:=I.tuple q'
  exact SeqAt.EqAt.list_tuple p1.isList p2 (Nat.lt_of_le_of_lt (Nat.le_add_right _ _) hu)
 | .tup ds,.lst es,A,x,y,u,v,hu,h1,h2,rx,ry=>by
  obtain ⟨a,xs,rfl,q,r⟩:=h1
  obtain ⟨b,ys,rfl,q',r'⟩:=h2
  cases rx
  cases ry
  obtain ⟨_,_,p1,_⟩:=I.tuple q
  obtain ⟨_,_,p2,_⟩:=I.list q'
  exact SeqAt.EqAt.tuple_list p1 p2.isList (Nat.lt_of_le_of_lt (Nat.le_add_right _ _) hu)
 | .lst ds,.lst es,A,x,y,u,v,hu,h1,h2,rx,ry=>by
  obtain ⟨a,xs,rfl,q,r⟩:=id h1
  obtain ⟨b,ys,rfl,q',r'⟩:=id h2
  cases rx
  cases ry
  by_cases qM:a=b
  ·subst qM
   rw [Be I _ _ _ h1 h2]
   exact SeqAt.EqAt.same _
  obtain ⟨i1,v1,p1,_⟩:=I.list q
  obtain ⟨i2,v2,p2,_⟩:=I.list q'
  have bh:A.units<cLine:=Nat.lt_of_le_of_lt (Nat.le_add_right _ _) hu
  have l1:=r.length
  have l2:=r'.length
  have m1:=v1.length
  have m2:=v2.length
  refine .of_refs qM ?_
  show SeqAt.RcAt A s (.ref a) (.ref b) (fS ds es)
  by_cases hl:ds.length=es.length
  ·have z:=SeqAt.RcAt.lists (e:=iX ds es) p1.isList p2.isList (by simp;omega) bh (fun j g1 g2=>nc I ds es A.in1 xs ys i1 i2 (by show A.units+1+dh ds<cLine;have:A.units+(dh ds+1)<cLine:=hu;omega) r r' v1 v2 j (by simpa using g1) (by simpa using g2))
   rw [List.size_toArray,<- m1,<- l1,mZ hl] at z
   exact z
  ·rw [m5 hl]
   exact .lists_lengths p1.isList p2.isList (by simp;omega) bh
 | .tup ds,.tup es,A,x,y,u,v,hu,h1,h2,rx,ry=>by
  obtain ⟨a,xs,rfl,q,r⟩:=id h1
  obtain ⟨b,ys,rfl,q',r'⟩:=id h2
  cases rx
  cases ry
  by_cases qM:a=b
  ·subst qM
   rw [Be I _ _ _ h1 h2]
   exact SeqAt.EqAt.same _
  obtain ⟨i1,v1,p1,_⟩:=I.tuple q
  obtain ⟨i2,v2,p2,_⟩:=I.tuple q'
  have bh:A.units<cLine:=Nat.lt_of_le_of_lt (Nat.le_add_right _ _) hu
  have l1:=r.length
  have l2:=r'.length
  have m1:=v1.length
  have m2:=v2.length
  refine .of_refs qM ?_
  show SeqAt.RcAt A s (.ref a) (.ref b) (fS ds es)
  have z:=SeqAt.RcAt.tuples (e:=iX ds es) p1 p2 bh (fun j g1 g2=>nc I ds es A.in1 xs ys i1 i2 (by show A.units+1+dh ds<cLine;have:A.units+(dh ds+1)<cLine:=hu;omega) r r' v1 v2 j (by simpa using g1) (by simpa using g2))
  have zz:((List.range (min i1.toArray.size i2.toArray.size)).all (iX ds es)&&i1.toArray.size==i2.toArray.size)=fS ds es:=by
   rw [List.size_toArray,List.size_toArray,<- m1,<- m2,<- l1,<- l2]
   by_cases hl:ds.length=es.length
   ·rw [hl,Nat.min_self,<- hl,mZ hl];simp [hl]
   ·rw [m5 hl,beq_eq_false_iff_ne.mpr hl,Bool.and_false]
  rw [zz] at z
  exact z
theorem nc (I:Inv X pins σ H s):∀ (ds es:List Dv) (A:Around) (xs ys:List V) (us vs:List Value),A.units+dh ds<cLine->aO X.K H ds xs->aO X.K H es ys->Vals xs us->Vals ys vs ->
  ∀ (j:Nat) (h1:j<us.length) (h2:j<vs.length),SeqAt.EqAt A s us[j] vs[j] (iX ds es j)
 |[],es,A,xs,ys,us,vs,hu,h1,h2,r1,r2,j,g1,g2=>by
  obtain rfl:xs=[]:=h1
  cases r1
  exact absurd g1 (Nat.not_lt_zero _)
 |d::ds,[],A,xs,ys,us,vs,hu,h1,h2,r1,r2,j,g1,g2=>by
  obtain rfl:ys=[]:=h2
  cases r2
  exact absurd g2 (Nat.not_lt_zero _)
 |d::ds,e::es,A,xs,ys,us,vs,hu,h1,h2,r1,r2,j,g1,g2=>by
  obtain ⟨x,r,rfl,a,b⟩:=h1
  obtain ⟨y,q,rfl,a',b'⟩:=h2
  cases r1 with
  |cons c1 t1=>cases r2 with
   |cons c2 t2 =>
    have hm:dh (d::ds)=max (dI d) (dh ds):=rfl
    rw [hm] at hu
    cases j with
    |zero=>exact X1 I d e A x y _ _ (Nat.lt_of_le_of_lt (Nat.add_le_add_left (Nat.le_max_left _ _) _) hu) a a' c1 c2
    |succ j=>exact nc I ds es A r q _ _ (Nat.lt_of_le_of_lt (Nat.add_le_add_left (Nat.le_max_right _ _) _) hu) b b' t1 t2 j (by simpa using g1) (by simpa using g2)
end
def tJ (K:PySem.W.Frag)(neg:Bool):R2:=fun x y H Q=>∃ d e,((∃ ds es,d=.lst ds/\e=.lst es)\/∃ ds es,d=.tup ds/\e=.tup es)/\Hv K H d x/\Hv K H e y/\dI d<=50/\Q (.bl (if neg then !cN d e else cN d e)) H
theorem LL (hr:X.A.units+64<cLine):cV X (compareOp .Eq) (tJ X.K false):=by
 intro pins s σ H x y v u Q I rx ry h
 obtain ⟨d,e,hk,h1,h2,hd,q⟩:=h
 have bh:X.A.units<cLine:=by omega
 rcases hk with ⟨ds,es,rfl,rfl⟩ | ⟨ds,es,rfl,rfl⟩
 ·obtain ⟨a,xs,rfl,q1,r⟩:=h1
  obtain ⟨b,ys,rfl,q2,r'⟩:=h2
  cases rx
  cases ry
  obtain ⟨i1,v1,p1,_⟩:=I.list q1
  obtain ⟨i2,v2,p2,_⟩:=I.list q2
  have l1:=r.length
  have l2:=r'.length
  have m1:=v1.length
  have m2:=v2.length
  have mF:dh ds+1<=50:=hd
  by_cases hl:ds.length=es.length
  ·refine SeqAt.eq_listAt (e:=iX ds es) p1.isList p2.isList (by simp;omega) bh (fun j g1 g2=>nc I ds es X.A.in1 xs ys i1 i2 (by show X.A.units+1+dh ds<cLine;omega) r r' v1 v2 j (by simpa using g1) (by simpa using g2)) ?_
   rw [List.size_toArray,<- m1,<- l1,mZ hl]
   exact ⟨.bl _,H,I,rfl,q⟩
  ·refine SeqAt.eq_list_lengthsAt p1.isList p2.isList (by simp;omega) bh ⟨.bl _,H,I,rfl,?_⟩
   have z:cN (.lst ds) (.lst es)=false:=m5 hl
   rw [z] at q
   exact q
 ·obtain ⟨a,xs,rfl,q1,r⟩:=h1
  obtain ⟨b,ys,rfl,q2,r'⟩:=h2
  cases rx
  cases ry
  obtain ⟨i1,v1,p1,_⟩:=I.tuple q1
  obtain ⟨i2,v2,p2,_⟩:=I.tuple q2
  have l1:=r.length
  have l2:=r'.length
  have m1:=v1.length
  have m2:=v2.length
  have mF:dh ds+1<=50:=hd
  refine SeqAt.eq_tupleAt (e:=iX ds es) p1 p2 bh (fun j g1 g2=>nc I ds es X.A.in1 xs ys i1 i2 (by show X.A.units+1+dh ds<cLine;omega) r r' v1 v2 j (by simpa using g1) (by simpa using g2)) ⟨.bl _,H,I,rfl,?_⟩
  have zz:((List.range (min i1.toArray.size i2.toArray.size)).all (iX ds es)&&i1.toArray.size==i2.toArray.size)=fS ds es:=by
   rw [List.size_toArray,List.size_toArray,<- m1,<- m2,<- l1,<- l2]
   by_cases hl:ds.length=es.length
   ·rw [hl,Nat.min_self,<- hl,mZ hl];simp [hl]
   ·rw [m5 hl,beq_eq_false_iff_ne.mpr hl,Bool.and_false]
  rw [zz]
  exact q
theorem X2 (hr:X.A.units+64<cLine):cV X (compareOp .NotEq) (tJ X.K true):=by
 intro pins s σ H x y v u Q I rx ry h
 obtain ⟨d,e,hk,h1,h2,hd,q⟩:=h
 have bh:X.A.units<cLine:=by omega
 rcases hk with ⟨ds,es,rfl,rfl⟩ | ⟨ds,es,rfl,rfl⟩
 ·obtain ⟨a,xs,rfl,q1,r⟩:=h1
  obtain ⟨b,ys,rfl,q2,r'⟩:=h2
  cases rx
  cases ry
  obtain ⟨i1,v1,p1,_⟩:=I.list q1
  obtain ⟨i2,v2,p2,_⟩:=I.list q2
  have l1:=r.length
  have l2:=r'.length
  have m1:=v1.length
  have m2:=v2.length
  have mF:dh ds+1<=50:=hd
  by_cases hl:ds.length=es.length
  ·refine SeqAt.RcNeAt.lists (e:=iX ds es) p1.isList p2.isList (by simp;omega) bh (fun j g1 g2=>nc I ds es X.A.in1 xs ys i1 i2 (by show X.A.units+1+dh ds<cLine;omega) r r' v1 v2 j (by simpa using g1) (by simpa using g2)) _ _ _ _ ?_
   rw [List.size_toArray,<- m1,<- l1,mZ hl]
   exact ⟨.bl _,H,I,rfl,q⟩
  ·refine SeqAt.RcNeAt.lists_lengths p1.isList p2.isList (by simp;omega) bh _ _ _ _ ⟨.bl _,H,I,rfl,?_⟩
   have z:cN (.lst ds) (.lst es)=false:=m5 hl
   rw [z] at q
   exact q
 ·obtain ⟨a,xs,rfl,q1,r⟩:=h1
  obtain ⟨b,ys,rfl,q2,r'⟩:=h2
  cases rx
  cases ry
  obtain ⟨i1,v1,p1,_⟩:=I.tuple q1
  obtain ⟨i2,v2,p2,_⟩:=I.tuple q2
  have l1:=r.length
  have l2:=r'.length
  have m1:=v1.length
  have m2:=v2.length
  have mF:dh ds+1<=50:=hd
  refine SeqAt.RcNeAt.tuples (e:=iX ds es) p1 p2 bh (fun j g1 g2=>nc I ds es X.A.in1 xs ys i1 i2 (by show X.A.units+1+dh ds<cLine;omega) r r' v1 v2 j (by simpa using g1) (by simpa using g2)) _ _ _ _ ⟨.bl _,H,I,rfl,?_⟩
  have zz:((List.range (min i1.toArray.size i2.toArray.size)).all (iX ds es)&&i1.toArray.size==i2.toArray.size)=fS ds es:=by
   rw [List.size_toArray,List.size_toArray,<- m1,<- m2,<- l1,<- l2]
   by_cases hl:ds.length=es.length
   ·rw [hl,Nat.min_self,<- hl,mZ hl];simp [hl]
   ·rw [m5 hl,beq_eq_false_iff_ne.mpr hl,Bool.and_false]
  rw [zz]
  exact q
end
end L2
namespace L2
open PySem PySem.Spec PyProof.Rows
structure iw (K:PySem.W.Frag) (x qual:Str) (st:Stmt) (dV:Value) (f:Addr) (fd:FuncData):Prop where
 ex:∃ (oc:Value) (od:Option Addr) (kV doc pm:Value) (an:Option Addr) (aU ct:Value) (gu:Array (Option Value)),
  fd=PySem.W.fnOf x qual (aX st) (aN st) (ah st) dV kV doc pm an aU ct/\K.lookup f=some ⟨oc,od,.func fd,gu⟩/\PySem.W.codeIn K aU qual=true
 kp:PySem.W.keepIn K (.ref f)=true
structure Kn (P:Program) (w:World) (K:PySem.W.Frag) (mg:Str->Option Value) (base:Heap) (CX:e9) (k:Nat) (x:Str) (f:Addr) (fd:FuncData) (ps:List Str) (sp:Sp):Prop where
 ok:aM P w K mg base CX k f fd ps sp
 mL:mg x=some (.ref f)
 kp:PySem.W.keepIn K (.ref f)=true
 bd:Binds K fd ps []
section
variable {P:Program}{w:World}{K:PySem.W.Frag}{mg:Str->Option Value}{base:Heap}
theorem iw.ok {x qual:Str}{st:Stmt}{dV:Value}{f:Addr}{fd:FuncData}{N ps:List Str}{k:Nat}{sp:Sp}(F:iw K x qual st dV f fd)(S:bj N ps (ah st))(len:∀ vs H Q E,sp vs H Q E->vs.length=ps.length)(kH:∀ (aU:Value) (A:Around) (outer:List Env) (s:Shared) (H:Hp) (vs:List V) (Q:VK) (E:XK),cQ k (A.deeper (envOfC qual (ah st) s.heap.objs.size f aU))->sp vs H Q E ->
   ∃ t,cL (cJ ao P w K mg base N qual (ah st) f aU A outer s H E).e8 (aN st) t/\t { nx:=fun _ H'=>Q .aS H',rt:=Q } (start N vs) H):aM P w K mg base ao (k+1) f fd ps sp:=by
 obtain ⟨oc,od,kV,doc,pm,an,aU,ct,gu,rfl,lk,eC⟩:=F.ex
 refine MY lk eC S len fun A outer s H vs Q E hr iG=>?_
 obtain ⟨t,h,q⟩:=kH aU A outer s H vs Q E hr iG
 exact ⟨t,h.e8,q⟩
theorem KA {x qual:Str}{st:Stmt}{dV:Value}{f:Addr}{oc:Value}{od an:Option Addr}{gu:Array (Option Value)}{kV doc pm aU ct:Value}(l:K.lookup f=some ⟨oc,od,.func (PySem.W.fnOf x qual (aX st) (aN st) (ah st) dV kV doc pm an aU ct),gu⟩)(c:PySem.W.codeIn K aU qual=true)(k:PySem.W.keepIn K (.ref f)=true):iw K x qual st dV f (PySem.W.fnOf x qual (aX st) (aN st) (ah st) dV kV doc pm an aU ct):=⟨⟨oc,od,kV,doc,pm,an,aU,ct,gu,rfl,l,c⟩,k⟩
end
section
variable {X:Cx}{CX:e9}{k:Nat}{f:Addr}{fd:FuncData}{ps:List Str}{sp:Sp}{E:XK}{x:Str}{p pos:Pos}{e:Expr}{es:List Expr}{t:TA}
theorem wq (F:Kn X.prog X.w X.K X.mg X.base ao k x f fd ps sp)(hr:cQ k X.A)(hg:Gl X x)(ha:PA X (e::es) t)(hdb:(x==("__debug__" : Str))=false:=by decide)(he:starEach (e::es) X.env=(false,eval e X.env)::starEach es X.env:=by rfl)(bW:(backTo pos (starEach es X.env)).any (·.1)=false:=by rfl) :
  PE X (.Call (.Name x p) (e::es) [] pos) (kG sp [] E0 t):=Ba F.ok hr hg F.mL F.kp F.bd .nil CB ha hdb he bW
end
section
variable {K:PySem.W.Frag}{g:TG}{tb:TS}{D:Ends}{σ:St}{H:Hp}
theorem Uh {j:Nat}{a:Addr}{xs:List V}(hj : σ[j]?=some (some (.ref a)))(hx:aH K H a xs)(Pv:Nat->St->Hp->Prop)(h0:Pv 0 σ H)(hk:∀ i σ H,i<=xs.length->Pv i σ H->aH K H a xs)(hs:∀ i x σ H,xs[i]?=some x->Pv i σ H->g x σ H fun bp H2=>tb { D with nx:=Pv (i+1),ct:=Pv (i+1),bk:=D.nx } bp H2)(hd:∀ σ H,Pv xs.length σ H->D.nx σ H):qu (sR K (bT j)) g tb D σ H :=
 ⟨_,hj,a,rfl,⟨xs,hx⟩,UT Pv h0 hk hs hd⟩
end
def CD (K:PySem.W.Frag):R2:=fun x y H Q=>∃ l b xs zs,x=.ref l/\y=.ref b/\aH K H l xs/\aH K H b zs/\xs.length+zs.length<=sizeLine/\∀ p,H p=none->Q (.ref p) (upd H p (.lst (xs++zs)))
section
variable {Y:Cx}{c:Expr}{tt:TT}
theorem M3 (pins:List (Addr×Obj))(s1:Shared)(aA:St)(H1:Hp)(Q:Bool->Hp->Prop)(I:Inv Y pins aA H1 s1)(h:Q true H1):wpAny (model Y.prog Y.w) Y.A (jV [] Y.env) (TP Y pins aA Q) cv s1 :=
 wpAny_pure ⟨H1,I,h⟩
theorem M4 (ht:PT Y c tt)(hx:Y.xe=cv)(pins:List (Addr×Obj))(s1:Shared)(aA:St)(H1:Hp)(Q:Bool->Hp->Prop)(I:Inv Y pins aA H1 s1)(h:tt aA H1 Q):wpAny (model Y.prog Y.w) Y.A (jV [c] Y.env) (TP Y pins aA Q) cv s1:=by
 have z:=ht pins s1 aA H1 Q I h
 rw [hx] at z
 unfold jV
 rw [List.forIn_cons]
 simp only [if_true]
 refine wpAny_bind (wpAny_bind (ay z fun b s2 q=>wpAny_pure ?_))
 exact wpAny_pure q
end
def vD:TT:=fun _ H Q=>Q true H
section
variable {X:Cx}
theorem KC:cV X (binaryOp .Add) (CD X.K):=by
 intro pins s σ H x y v u Q I rx ry h
 obtain ⟨l,b,xs,zs,rfl,rfl,hH,hB,hz,q⟩:=h
 cases rx
 cases ry
 obtain ⟨its,r,⟨⟨cl,dd,da,sl⟩,n,e,c1,c2,d1⟩,z⟩:=I.list hH
 obtain ⟨gk,r2,⟨⟨cl2,dd2,da2,kY⟩,n2,e2,c3,c4,d2⟩,z2⟩:=I.list hB
 simp only at c1 d1 c3 d2
 subst c1 d1 c3 d2
 have l1:=r.length
 have l2:=r2.length
 refine concat_meets ⟨_,e,rfl⟩ ⟨_,e2,rfl⟩ noFill_list_add seq_list_add PySem.F.slot_list_add PySem.F.entry_list_add (PySem.F.args_list_add_2 _ _) (list_addW l b its.toArray gk.toArray n n2 dd dd2 sl kY (by simp;omega)) ⟨e,e2,?_⟩
 have ea:its.toArray++gk.toArray=(its++gk).toArray:=by simp
 rw [ea]
 exact ⟨.ref _,_,I.wN (t':=s.toks) (r.append r2) (by rw [List.length_append];omega),rfl,q _ I.fresh⟩
end
end L2
namespace L2
open PySem
theorem fZ:bootBuiltins "isinstance" = some (.builtin "isinstance"):=by decide +kernel
theorem X3:bootBuiltins "abs" = some (.builtin "abs"):=by decide +kernel
theorem BM:bootBuiltins "len" = some (.builtin "len"):=by decide +kernel
theorem Jd:bootBuiltins "sorted" = some (.builtin "sorted"):=by decide +kernel
theorem X4:bootBuiltins "any" = some (.builtin "any"):=by decide +kernel
theorem X5:bootBuiltins "int" = some (.type "int"):=by decide +kernel
theorem V8:bootBuiltins "bool" = some (.type "bool"):=by decide +kernel
theorem Bf:bootBuiltins "list" = some (.type "list"):=by decide +kernel
theorem U1:bootBuiltins "tuple" = some (.type "tuple"):=by decide +kernel
theorem X6:bootBuiltins "zip" = some (.type "zip"):=by decide +kernel
theorem Sw:bootBuiltins "enumerate" = some (.type "enumerate"):=by decide +kernel
theorem R3:bootBuiltins "ValueError" = some (.type "ValueError"):=by decide +kernel
end L2
namespace L2
open PySem PySem.Spec PyProof.Rows
def eY (cells:List (Str×Addr)):List (Str×NameKind)->List (Str×Addr)->List (Str×Addr)
 |[],cs=>cs
 |(n,k)::r,cs=>eY cells r (if k==.free then (n,(cells.lookup n).getD 0)::cs else cs)
theorem KD {sc:Scope}{env:Env}(h:∀ p ∈ sc.names,p.2=.free->∃ c,env.cells.lookup p.1=some c):closureFor sc env=pure (eY env.cells sc.names []):=by
 have key:∀ (names:List (Str×NameKind)) (cs:List (Str×Addr)),(∀ p ∈ names,p.2=.free->∃ c,env.cells.lookup p.1=some c) ->
   (forIn names cs fun x t=>match x with
    |(name,kind)=>if (kind==NameKind.free)=true then do
       let a <- cellOf env name
       pure (ForInStep.yield ((name,a)::t))
      else pure (ForInStep.yield t))=(pure (eY env.cells names cs):Sem (List (Str×Addr))):=by
  intro names
  induction names with
  |nil=>intro cs _;rfl
  |cons p r ih =>
   intro cs hp
   obtain ⟨n,k⟩:=p
   rw [List.forIn_cons]
   cases hk:k==NameKind.free with
   |true =>
    obtain ⟨c,hc⟩:=hp (n,k) (.head _) (beq_iff_eq.mp hk)
    have gR:env.cells.lookup n=some c:=hc
    have e1:cellOf env n=pure c:=by unfold cellOf;rw [gR]
    have e2:eY env.cells ((n,k)::r) cs=eY env.cells r ((n,c)::cs):=by
     show eY env.cells r (if (k==NameKind.free)=true then _ else _)=_
     rw [hk,gR,if_pos rfl]
     rfl
    rw [e2,<- ih ((n,c)::cs) fun q hq=>hp q (.tail _ hq)]
    simp only [hk,if_true,e1]
    rfl
   |false =>
    have e2:eY env.cells ((n,k)::r) cs=eY env.cells r cs:=by
     show eY env.cells r (if (k==NameKind.free)=true then _ else _)=_
     rw [hk,if_neg (by decide)]
    rw [e2,<- ih cs fun q hq=>hp q (.tail _ hq)]
    simp only [hk,Bool.false_eq_true,if_false]
    rfl
 simp only [closureFor]
 rw [key sc.names [] h]
 rfl
theorem Ad {cells:List (Str×Addr)}:∀ (names:List (Str×NameKind)) (cs:List (Str×Addr)),(∀ p ∈ names,p.2=.free->∃ c,cells.lookup p.1=some c)->(∀ y c,cs.lookup y=some c->cells.lookup y=some c) ->
  ∀ y c,(eY cells names cs).lookup y=some c->cells.lookup y=some c
 |[],_,_,h=>h
 |(n,k)::r,cs,hp,h=>by
  refine Ad r _ (fun q hq=>hp q (.tail _ hq)) fun y c e=>?_
  split at e
  ·rename_i hk
   obtain ⟨c0,hc⟩:=hp (n,k) (.head _) (beq_iff_eq.mp hk)
   have gR:cells.lookup n=some c0:=hc
   rw [List.lookup_cons] at e
   split at e
   ·rename_i hy
    have:y=n:=beq_iff_eq.mp hy
    subst this
    rw [gR] at e
    cases e
    exact gR
   ·exact h y c e
  ·exact h y c e
theorem IH {cells:List (Str×Addr)}:∀ (names:List (Str×NameKind)) (cs:List (Str×Addr)) (y:Str),(∃ c,cs.lookup y=some c)->∃ c,(eY cells names cs).lookup y=some c
 |[],_,_,h=>h
 |(n,k)::r,cs,y,⟨c,h⟩=>by
  refine IH r _ y ?_
  split
  ·rw [List.lookup_cons]
   split
   ·exact ⟨_,rfl⟩
   ·exact ⟨c,h⟩
  ·exact ⟨c,h⟩
theorem lM {cells:List (Str×Addr)}:∀ (names:List (Str×NameKind)) (cs:List (Str×Addr)) (y:Str),(y,NameKind.free) ∈ names->∃ c,(eY cells names cs).lookup y=some c
 |[],_,_,h=>nomatch h
 |(n,k)::r,cs,y,h=>by
  rcases List.mem_cons.mp h with e | h
  ·have e1:y=n:=congrArg (·.1) e
   have e2:NameKind.free=k:=congrArg (·.2) e
   subst e1 e2
   refine IH r _ _ ?_
   rw [if_pos (by decide),List.lookup_cons_self]
   exact ⟨_,rfl⟩
  ·exact lM r _ y h
theorem mem_of_lookup {κ β:Type} [BEq κ] [LawfulBEq κ]{l:List (κ×β)}{y : κ}{k : β}(h:l.lookup y=some k):(y,k) ∈ l:=by
 induction l with
 |nil=>cases h
 |cons p r ih =>
  obtain ⟨n,b⟩:=p
  rw [List.lookup_cons] at h
  split at h
  ·rename_i hy
   have:y=n:=beq_iff_eq.mp hy
   subst this
   cases h
   exact .head _
  ·exact .tail _ (ih h)
section
variable {CX:e9}{P:Program}{w:World}{K:PySem.W.Frag}{mg:Str->Option Value}{base:Heap}{N:List Str}{qual:Str}{bP:Scope}{f:Addr}{cd:Value}{A:Around}{outer:List Env}{s:Shared}{H:Hp}{E:XK}{XE:Value->Shared->Prop}
structure KG (N:List Str) (bP sc:Scope) (fr:List Nat):Prop where
 kind:sc.kind=.function
 M5:bP.kind=.function
 X7:∀ y ∈ sc.names,y.2 ≠ .cell
 loc:∀ y ∈ sc.names,y.2=.local->sc.names.lookup y.1=some .local
 nY:∀ y ∈ sc.names,y.2=.free->bP.names.lookup y.1=some .cell
 bG:∀ j ∈ fr,sc.names.lookup (N.getD j "")=some .free/\j<N.length
theorem oE {env:Env}:∀ {names:List (Str×NameKind)} {y:Str} {k:NameKind},(names.map fun (n,k)=>if (k==NameKind.free&&env.scope.kind==.function&&env.kindOf n==some .cell) then (n,NameKind.cell) else (n,k)).lookup y=some k ->
  ∃ k0,names.lookup y=some k0/\(k=k0\/(k=.cell/\k0=.free))
 |[],_,_,h=>by cases h
 |(n,k0)::r,y,k,h=>by
  rw [List.map_cons] at h
  simp only at h
  split at h
  ·rename_i hc
   rw [List.lookup_cons] at h ⊢
   split at h
   ·cases h
    simp only [Bool.and_eq_true,beq_iff_eq] at hc
    exact ⟨k0,rfl,.inr ⟨rfl,hc.1.1⟩⟩
   ·exact oE h
  ·rw [List.lookup_cons] at h ⊢
   split at h
   ·cases h
    exact ⟨k0,rfl,.inl rfl⟩
   ·exact oE h
theorem rk {env:Env}:∀ {names:List (Str×NameKind)} {y:Str},names.lookup y=some .free ->
  (names.map fun (n,k)=>if (k==NameKind.free&&env.scope.kind==.function&&env.kindOf n==some .cell) then (n,NameKind.cell) else (n,k)).lookup y=some .cell \/
  (names.map fun (n,k)=>if (k==NameKind.free&&env.scope.kind==.function&&env.kindOf n==some .cell) then (n,NameKind.cell) else (n,k)).lookup y=some .free
 |[],_,h=>by cases h
 |(n,k0)::r,y,h=>by
  rw [List.map_cons]
  rw [List.lookup_cons] at h
  simp only
  split at h
  ·rename_i hy
   cases h
   split
   ·left;rw [List.lookup_cons,hy]
   ·right;rw [List.lookup_cons,hy]
  ·rename_i hy
   split
   ·rw [List.lookup_cons,hy];exact rk h
   ·rw [List.lookup_cons,hy];exact rk h
structure U2 (N:List Str) (bP sc:Scope) (fr:List Nat):Prop where
 kind:sc.kind=.function
 M5:bP.kind=.function
 own:∀ y ∈ sc.names,y.2=.cell->∀ z ∈ sc.names,z.2=.free->z.1 ≠ y.1
 loc:∀ y ∈ sc.names,y.2=.local->sc.names.lookup y.1=some .local
 nY:∀ y ∈ sc.names,y.2=.free->bP.names.lookup y.1=some .cell
 bG:∀ j ∈ fr,sc.names.lookup (N.getD j "")=some .free/\j<N.length
theorem zU {cells:List (Str×Addr)}:∀ (names:List (Str×NameKind)) (cs:List (Str×Addr)) (y:Str),(∀ z ∈ names,z.2=.free->z.1 ≠ y)->cs.lookup y=none->(eY cells names cs).lookup y=none
 |[],_,_,_,h=>h
 |(n,k)::r,cs,y,hn,h=>by
  refine zU r _ y (fun z hz=>hn z (.tail _ hz)) ?_
  split
  ·rename_i hk
   have ui:n ≠ y:=hn (n,k) (.head _) (beq_iff_eq.mp hk)
   have hb:(y==n)=false:=beq_eq_false_iff_ne.mpr fun e=>ui e.symm
   rw [List.lookup_cons,hb]
   exact h
  ·exact h
theorem yU {env:Env}:∀ {names:List (Str×NameKind)} {y:Str},names.lookup y=some .cell ->
  (names.map fun (n,k)=>if (k==NameKind.free&&env.scope.kind==.function&&env.kindOf n==some .cell) then (n,NameKind.cell) else (n,k)).lookup y=some .cell
 |[],_,h=>by cases h
 |(n,k0)::r,y,h=>by
  rw [List.map_cons]
  rw [List.lookup_cons] at h
  simp only
  split at h
  ·rename_i hy
   cases h
   rw [if_neg (by intro z;rw [Bool.and_eq_true,Bool.and_eq_true] at z;exact absurd z.1.1 (by decide)),List.lookup_cons,hy]
  ·rename_i hy
   split
   ·rw [List.lookup_cons,hy];exact yU h
   ·rw [List.lookup_cons,hy];exact yU h
theorem wU {sc:Scope}{fr:List Nat}(L:U2 N bP sc fr):hJ ((cJ CX P w K mg base N qual bP f cd A outer s H E).fD XE) sc (eY (cellsFrom (s.heap.objs.size+1) bP.names []) sc.names []) fr:=by
 have md:∀ p ∈ sc.names,p.2=.free->∃ c,(cellsFrom (s.heap.objs.size+1) bP.names []).lookup p.1=some c:=fun p hp e=>Az (L.nY p hp e)
 refine ⟨KD md,L.kind,fun y hy=>zU _ _ y (L.own _ hy rfl) rfl,L.loc,Ad _ _ md (fun _ _ e=>nomatch e),fun y hy=>?_,fun j hj=>?_⟩
 ·have hk:sc.names.lookup y=some .free\/sc.names.lookup y=some .cell:=by
   rcases hy with hy | hy
   ·obtain ⟨k0,h1,h2⟩:=oE hy
    rcases h2 with h2 | ⟨_,h2⟩
    ·rw [<- h2] at h1;exact .inr h1
    ·rw [h2] at h1;exact .inl h1
   ·obtain ⟨k0,h1,h2⟩:=oE hy
    rcases h2 with h2 | ⟨h2,_⟩
    ·rw [<- h2] at h1;exact .inl h1
    ·cases h2
  exact hk.imp (fun q=>lM _ _ y (mem_of_lookup q)) mem_of_lookup
 ·obtain ⟨h1,h2⟩:=L.bG j hj
  have hm:=mem_of_lookup h1
  have h3:=L.nY _ hm rfl
  refine ⟨N.getD j "",?_,?_,.inr (.inl h3),?_,lM _ _ _ hm⟩
  ·show N[j]?=some (N.getD j "")
   rw [List.getD_eq_getElem?_getD,List.getElem?_eq_getElem h2]
   rfl
  ·exact rk h1
  ·intro z
   have z':bP.names.lookup (N.getD j "")=some .local:=z
   have uj:bP.names.lookup (N.getD j "")=some .cell:=h3
   rw [uj] at z'
   cases z'
theorem lcs {sc:Scope}{fr:List Nat}(L:KG N bP sc fr):hJ ((cJ CX P w K mg base N qual bP f cd A outer s H E).fD XE) sc (eY (cellsFrom (s.heap.objs.size+1) bP.names []) sc.names []) fr :=
 wU ⟨L.kind,L.M5,fun y hy e=>absurd e (L.X7 y hy),L.loc,L.nY,L.bG⟩
end
structure JA (N:List Str) (bP sc:Scope) (fr:List Nat):Prop where
 kind:sc.kind=.function
 own:∀ y ∈ sc.names,y.2=.cell->∀ z ∈ sc.names,z.2=.free->z.1 ≠ y.1
 loc:∀ y ∈ sc.names,y.2=.local->sc.names.lookup y.1=some .local
 nY:∀ y ∈ sc.names,y.2=.free->bP.names.lookup y.1=some .cell\/bP.names.lookup y.1=some .free
 bG:∀ j ∈ fr,sc.names.lookup (N.getD j "")=some .free/\j<N.length
theorem ZX {X:Cx}{kO:List Str}{kZ:List Nat}{bP:Scope}{mM:List (Str×Addr)}{C:Addr}{s:Shared}{H:Hp}{ex:List Addr}{pn:List (Addr×Obj)}{sc:Scope}{fr:List Nat}(L:JA (kO++kZ.map fun j=>X.N.getD j "") bP sc fr)(D7:∀ y,(y,NameKind.free) ∈ bP.names->∃ c,mM.lookup y=some c) :
  hJ (bU X kO kZ bP mM C s H ex pn) sc (eY (cellsFrom (C+1) bP.names mM) sc.names []) fr:=by
 have md:∀ p ∈ sc.names,p.2=.free->∃ c,(cellsFrom (C+1) bP.names mM).lookup p.1=some c:=fun p hp e=>by
  rcases L.nY p hp e with q | q
  ·exact vX _ _ _ _ (mem_of_lookup q)
  ·exact sj _ _ _ _ (D7 _ (mem_of_lookup q))
 refine ⟨KD md,L.kind,fun y hy=>zU _ _ y (L.own _ hy rfl) rfl,L.loc,Ad _ _ md (fun _ _ e=>nomatch e),fun y hy=>?_,fun j hj=>?_⟩
 ·have hk:sc.names.lookup y=some .free\/sc.names.lookup y=some .cell:=by
   rcases hy with hy | hy
   ·obtain ⟨k0,h1,h2⟩:=oE hy
    rcases h2 with h2 | ⟨_,h2⟩
    ·rw [<- h2] at h1;exact .inr h1
    ·rw [h2] at h1;exact .inl h1
   ·obtain ⟨k0,h1,h2⟩:=oE hy
    rcases h2 with h2 | ⟨h2,_⟩
    ·rw [<- h2] at h1;exact .inl h1
    ·cases h2
  exact hk.imp (fun q=>lM _ _ y (mem_of_lookup q)) mem_of_lookup
 ·obtain ⟨h1,h2⟩:=L.bG j hj
  have hm:=mem_of_lookup h1
  have hv:(relabel bP X.env).names.lookup ((kO++kZ.map fun j=>X.N.getD j "").getD j "")=some .cell\/(relabel bP X.env).names.lookup ((kO++kZ.map fun j=>X.N.getD j "").getD j "")=some .free:=by
   rcases L.nY _ hm rfl with q | q
   ·exact .inl (yU q)
   ·exact rk q
  refine ⟨_,?_,rk h1,.inr hv,fun z=>?_,lM _ _ _ hm⟩
  ·show (kO++kZ.map fun j=>X.N.getD j "")[j]?=some _
   rw [List.getD_eq_getElem?_getD,List.getElem?_eq_getElem h2]
   rfl
  ·have z':(relabel bP X.env).names.lookup ((kO++kZ.map fun j=>X.N.getD j "").getD j "")=some .local:=z
   rcases hv with q | q<;>rw [q] at z'<;>cases z'
section
variable {g:TG}{tb:TS}{D:Ends}{σ:St}{H:Hp}{ta:TA}
theorem V9 {hi:Int}(n:Nat)(h:∀ R:List V->Hp->Prop,R [.int hi] H->ta σ H R)(b : -(2 ^ 62)<=hi/\hi<2 ^ 62)(hn:hi.toNat=n)(Pv:Nat->St->Hp->Prop)(hp:Pv 0 σ H)(hs:∀ i σ H,i<n->Pv i σ H->g (.int (0+i)) σ H fun bp H2=>tb { D with nx:=Pv (i+1),ct:=Pv (i+1),bk:=D.nx } bp H2)(hd:∀ σ H,Pv n σ H->D.nx σ H):qu (wo ta) g tb D σ H :=
 h _ ⟨hi,rfl,b.1,b.2,by rw [hn];exact Ub Pv hp hs hd⟩
end
section
variable {X:Cx}{K:PySem.W.Frag}
theorem Wa (h:X.K=K):t4 X (tH K):=h ▸ BG
theorem JB (h:X.K=K):t4 X (Ds K):=h ▸ V2
theorem Ui (h:X.K=K):fB X (.builtin "len") (fun xs H Q=>∃ p ys,xs=[.ref p]/\(aH K H p ys\/cM K H p ys)/\Q (.int ys.length) H):=h ▸ Ik
end
theorem bQ.there {P:Program}{w:World}{H:Hp}{h:Heap}{a:Addr}{o:HO}(x:bQ P w H h a o):∃ u,h.get? a=some u:=by
 cases o with
 |lst xs=>obtain ⟨_,_,_,_,e⟩:=x;exact ⟨_,e⟩
 |tup xs=>obtain ⟨_,_,_,ob,e,_⟩:=x;exact ⟨_,e⟩
 |dK aj=>obtain ⟨_,_,_,_,o,_,_,e,_⟩:=x;exact ⟨_,e⟩
 |dT aj=>obtain ⟨_,_,_,_,o,_,_,e,_⟩:=x;exact ⟨_,e⟩
 |set S n=>obtain ⟨o,_,_,_,e,_⟩:=x;exact ⟨_,e⟩
 |ins C dx fs=>obtain ⟨_,_,_,e,_⟩:=x;exact ⟨_,e⟩
 |own y=>exact x
 |xd fs=>obtain ⟨_,⟨_,_,_,e,_⟩,_⟩:=x;exact ⟨_,e⟩
 |cB lo hi=>obtain ⟨_,_,_,e⟩:=x;exact ⟨_,e⟩
 |cK ob u=>obtain ⟨e,_⟩:=x;exact ⟨_,e⟩
 |km ps=>exact ⟨_,(show h.get? a=some _ from x)⟩
 |met f y=>exact ⟨_,(show h.get? a=some _ from x)⟩
 |ext φ => obtain ⟨_,e,_⟩:=x;exact e
structure qa (P:Program) (w:World) (outer:List Env) (H:Hp) (s:Shared) (x C:Addr) (H':Hp) (s':Shared):Prop where
 os:s'.os=s.os
 bare:AllBare s'.gens
 ex:∃ (B:Heap) (a0:Value),Heap.FlyingW B outer x (.ref C) a0 s'.heap/\bO P w H' B/\(∀ b o,s.heap.get? b=some o->H b=none->b ∉ bG outer->B.get? b=some o) /\
  (∀ b o,s.heap.get? b=some o->b ∉ bG outer->∃ o',B.get? b=some o')
 slot:∀ b o,s.heap.get? b=some o->b ∈ bG outer->∃ sl,s'.heap.get? b=some { o with slots:=sl }
 free:∀ b o,s.heap.get? b=some o->H b=none->H' b=none
 eh:∀ b xs,H b=some (.tup xs)->H' b=some (.tup xs)
 dR:∀ b o u,H b=some (.cK o u)->H' b=some (.cK o u)
 eu:∀ b ps,H b=some (.km ps)->∃ more,H' b=some (.km (ps++more))
 e8:H' x=none
section
variable {P:Program}{w:World}{outer:List Env}{H H':Hp}{s s':Shared}{x C:Addr}
theorem qa.un (f:qa P w outer H s x C H' s'):Un (bG outer) [] H H' s.heap s'.heap:=by
 obtain ⟨B,a0,fl,ok,kp,th⟩:=f.ex
 refine ⟨fun b o e n hb _=>fl.1 b o (kp b o e n hb),fun b o e n hb _=>f.slot b o e hb,fun b o e n _=>f.free b o e n,fun b o e _=>?_,f.eh,f.dR,f.eu⟩
 by_cases hb:b ∈ bG outer
 ·obtain ⟨sl,q⟩:=f.slot b o e hb
  exact ⟨_,q⟩
 ·obtain ⟨o',q⟩:=th b o e hb
  exact ⟨o',fl.1 b o' q⟩
theorem qa.av (f:qa P w outer H s x C H' s'):bO P w H' s'.heap:=by
 obtain ⟨B,a0,fl,ok,_⟩:=f.ex
 exact ok.kept fl.1
end
section
variable {X:Cx}{pins:List (Addr×Obj)}{σ:St}{H H':Hp}{s s':Shared}
theorem U3 (I:Inv X pins σ H s):bO X.prog X.w H (PySem.W.hideAll s.heap (bG X.stack)):=fun a o e =>
 (I.av a o e).iq (fun b u hb q=>PySem.W.hideAll_get _ q fun hm=>by
  have n:=I.A8 b hm
  rcases hb with z | z
  ·subst z;rw [n] at e;cases e
  ·rw [n] at z;cases z) (fun _ q=>q) fun _ _ q=>q
theorem X8 {l:List Env}:∀ env ∈ l,∀ a,env.frame=some a->a ∈ bG l:=fun env he a ha=>List.mem_filterMap.mpr ⟨env,he,ha⟩
theorem Inv.fly {x C:Addr}(I:Inv X pins σ H s)(f:qa X.prog X.w X.stack H s x C H' s'):Inv X pins σ H' s' :=
 I.wm f.os f.un f.av f.bare fun b hb=>nomatch hb
end
abbrev qz:List Value:=[.type "ValueError",.type "Exception",.type "BaseException",.type "object"]
theorem Wb {K:PySem.W.Frag}{h:Heap}{C:Addr}{PH:List Value}{nid:String}(Z:K.In h)(q:PySem.W.excIn K C PH nid=true) :
  ∃ bm N nm qn bs hdct sn sub ab col dd k0 k1 k2 k3 k5 mN,h.get? C=some (excClassObj nm qn C N bs bm hdct sn sub ab col dd k0 k1 k2 k3 k5 nid)/\h.Ns N mN/\mN "__init__" = none/\OwnTail h PH bm:=by
 unfold PySem.W.excIn at q
 split at q
 next dd cd sl ho =>
  split at q
  next C' bm k0 k1 k2 k3 n k5 hm hs =>
   rw [Bool.and_eq_true,Bool.and_eq_true,Bool.and_eq_true,Bool.and_eq_true,Bool.and_eq_true] at q
   obtain ⟨⟨⟨⟨⟨q1,q2⟩,q3⟩,q4⟩,q5⟩,q6⟩:=q
   have e1:C'=C:=beq_iff_eq.mp q1
   have e2:n=nid:=beq_iff_eq.mp q2
   have e3:cd.hasDel=false:=by simpa using q3
   have e6:PySem.W.nsIn K cd.ns "__init__" = some none:=beq_iff_eq.mp q6
   subst e1 e2
   cases cd with
   |mk nm bs mro ns qn hd sn sub ab col del =>
    have e3':del=false:=e3
    have qN:mro=.ref C'::bm:=hm
    subst e3' qN
    have es:sl=#[k0,k1,k2,k3,some (.builtin n),k5]:=by
     cases sl with
     |mk l=>exact congrArg Array.mk hs
    subst es
    exact ⟨bm,ns,nm,qn,bs,hd,sn,sub,ab,col,dd,k0,k1,k2,k3,k5,_,Z _ _ ho,.of_isNs (PySem.W.isNs_of_in Z q5),PySem.W.nsMap_none_of_in Z q5 e6,PySem.W.tail_of_in Z q4⟩
  next=>cases q
 next=>cases q
def vE (CX:e9)(X:Cx)(E:St->XK):Prop:=∀ (pins:List (Addr×Obj)) (σ:St) (H:Hp) (s:Shared) (e:Value) (s':Shared),Inv X pins σ H s->CX X.stack H s (E σ) e s'->X.xe e s'
theorem Passes.s {CX:e9}{X:Cx}{E:XK}(h:Passes CX X E):vE CX X fun _=>E:=fun pins σ H s e s' I z=>h pins σ H s e s' I z
def kE (sp:Sp)(dvs:List V)(E:St->XK)(t:TA):TE:=fun σ H Q=>t σ H fun vs H1=>sp (vs++dvs) H1 Q (E σ)
section
variable {X:Cx}{CX:e9}{k:Nat}{f:Addr}{fd:FuncData}{ps:List Str}{sp:Sp}{dvs:List V}{ds:List Value}{E:St->XK}{x:Str}{p pos:Pos}{e:Expr}{es:List Expr}{t:TA}
theorem AB (F:aM X.prog X.w X.K X.mg X.base CX k f fd ps sp)(hr:cQ k X.A)(hg:Gl X x)(hm:X.mg x=some (.ref f))(hk:PySem.W.keepIn X.K (.ref f)=true)(hb:Binds X.K fd ps ds)(hd:Vals dvs ds)(hx:vE CX X E)(ha:PA X (e::es) t)(hdb:(x==("__debug__" : Str))=false:=by decide)(he:starEach (e::es) X.env=(false,eval e X.env)::starEach es X.env:=by rfl)(bW:(backTo pos (starEach es X.env)).any (·.1)=false:=by rfl) :
  PE X (.Call (.Name x p) (e::es) [] pos) (kE sp dvs E t):=by
 intro pins s σ H Q I h
 refine wpAny_Call_Name_kw (sd I hg hm ?_ hdb)
 refine PySem.W.callWith_K (h₀:=X.base) I.ok.mod.nR hk (ay (ha pos pins s σ H _ I h) fun us s1 ⟨vs,H1,I1,r,q⟩=>⟨I1.cU,?_⟩) he bW
 have r2:Vals (vs++dvs) (us++ds):=r.append hd
 have hl:(us++ds).length=ps.length:=by rw [<- r2.length];exact F.len _ _ _ _ q
 refine wpAny_call (codeAny_mono (F.run X.A X.stack s1 H1 ⟨us,[]⟩ (us++ds) (vs++dvs) Q (E σ) hr I1.Dr (hb s1 us I1.cU hl) r2 q) fun r s' hq=>?_)
 cases r with
 |error e=>exact hx pins σ H1 s1 e s' I1 hq
 |ok fl =>
  cases fl with
  |ret u=>exact I1.after hq
  |next=>exact False.elim hq
  |brk=>exact False.elim hq
  |cont=>exact False.elim hq
end
abbrev Cx.gM (X:Cx)(XE:Value->Shared->Prop)(pn:List (Addr×Obj)):Cx:={ X with xe:=XE,pn:=pn }
abbrev Cx.suite (X:Cx)(v:Value):Cx:={ X with A:=X.A.mark (some v),calm:=false,xe:=fun _ _=>False }
theorem Inv.gM {X:Cx}{pins:List (Addr×Obj)}{σ:St}{H:Hp}{s:Shared}(I:Inv X pins σ H s)(XE:Value->Shared->Prop):Inv (X.gM XE (X.pn++pins)) [] σ H s :=
 ⟨⟨I.ok.mod,I.ok.kind,I.ok.glob,I.ok.blt,I.ok.above,I.ok.inj,I.ok.has,I.ok.kn,I.ok.hd,I.ok.frames,I.ok.jd,I.ok.nS,I.ok.bs,I.ok.iE,I.ok.ke,I.ok.kM,I.ok.eA,I.ok.gQ⟩,I.os,I.bare,I.base,I.loc,I.cell,I.free,I.fA,fun p hp=>I.pin p (by simpa using hp),I.av,I.len⟩
theorem Inv.sV {X:Cx}{XE:Value->Shared->Prop}{pins sP:List (Addr×Obj)}{σ:St}{H:Hp}{s:Shared}(I:Inv (X.gM XE (X.pn++pins)) sP σ H s):Inv X pins σ H s :=
 ⟨⟨I.ok.mod,I.ok.kind,I.ok.glob,I.ok.blt,I.ok.above,I.ok.inj,I.ok.has,I.ok.kn,I.ok.hd,I.ok.frames,I.ok.jd,I.ok.nS,I.ok.bs,I.ok.iE,I.ok.ke,I.ok.kM,I.ok.eA,I.ok.gQ⟩,I.os,I.bare,I.base,I.loc,I.cell,I.free,I.fA,fun p hp=>I.pin p (List.mem_append_left _ hp),I.av,I.len⟩
theorem Inv.suite {X:Cx}{pins:List (Addr×Obj)}{σ:St}{H:Hp}{s:Shared}(I:Inv X pins σ H s)(v:Value):Inv (X.suite v) pins σ H s :=
 ⟨⟨I.ok.mod,I.ok.kind,I.ok.glob,I.ok.blt,I.ok.above,I.ok.inj,I.ok.has,I.ok.kn,fun z=>Bool.noConfusion z,I.ok.frames,I.ok.jd,I.ok.nS,I.ok.bs,I.ok.iE,I.ok.ke,I.ok.kM,I.ok.eA,I.ok.gQ⟩,I.os,I.bare,I.base,I.loc,I.cell,I.free,I.fA,I.pin,I.av,I.len⟩
theorem Inv.vF {X:Cx}{pins:List (Addr×Obj)}{σ:St}{H:Hp}{s:Shared}{v:Value}(I:Inv (X.suite v) pins σ H s)(hd:X.calm=true->X.A.handled=none):Inv X pins σ H s :=
 ⟨⟨I.ok.mod,I.ok.kind,I.ok.glob,I.ok.blt,I.ok.above,I.ok.inj,I.ok.has,I.ok.kn,hd,I.ok.frames,I.ok.jd,I.ok.nS,I.ok.bs,I.ok.iE,I.ok.ke,I.ok.kM,I.ok.eA,I.ok.gQ⟩,I.os,I.bare,I.base,I.loc,I.cell,I.free,I.fA,I.pin,I.av,I.len⟩
theorem Inv.Ze {X:Cx}{pins:List (Addr×Obj)}{σ:St}{H:Hp}{s:Shared}{x:Addr}{o:HO}(I:Inv X pins σ H s)(hx:H x=none)(h0:X.cy.heap.get? x=none)(hL:x ≠ X.env.locals)(hC:∀ y c,X.env.cells.lookup y=some c->c ≠ x)(hp:∀ p ∈ X.pn++pins,p.1 ≠ x)(ok:bQ X.prog X.w (upd H x o) s.heap x o):Inv X pins σ (upd H x o) s:=by
 have keep:∀ b u,H b=some u->upd H x o b=some u:=fun b u q=>by rw [aP (iR q hx)];exact q
 refine ⟨I.ok,I.os,I.bare,⟨I.base.keep,I.base.slot,fun b ob q n e=>?_,I.base.there,fun b xs q=>keep _ _ (I.base.eh b xs q),fun b ob u q=>keep _ _ (I.base.dR b ob u q),fun b ps q=>?_⟩,I.loc,I.cell,by rw [aP (Ne.symm hL)];exact I.free,fun y c e=>by rw [aP (hC y c e)];exact I.fA y c e,fun p PJ=>?_,fun b u q=>?_,I.len⟩
 ·have:b ≠ x:=fun z=>by rw [z,h0] at q;cases q
  rw [aP this]
  exact I.base.free b ob q n e
 ·obtain ⟨more,e⟩:=I.base.eu b ps q
  exact ⟨more,keep _ _ e⟩
 ·obtain ⟨a,b,c,d,e⟩:=I.pin p PJ
  exact ⟨a,by rw [aP (hp p PJ)];exact b,c,d,e⟩
 ·by_cases hb:b=x
  ·subst hb
   rw [bE] at q
   cases q
   exact ok
  ·rw [aP hb] at q
   exact (I.av b u q).iq (fun _ _ _ z=>z) (fun c z=>keep _ _ z) fun c xs z=>keep _ _ z
theorem S1 {K:PySem.W.Frag}{M:Model}{A:Around}{E:Value->Shared->Prop}{s:Shared}{x C D:Addr}{o:Obj}{Q:Bool->Shared->Prop}(Z:K.In s.heap)(ho:s.heap.get? x=some o)(hc:o.cls=.ref C)(ht:PySem.W.typeIn K (.ref D)=some (.type "type"))(hD:PySem.W.isClsIn K D=true)(hb:PySem.W.subIn K (.ref D) (.type "BaseException")=some true)(hs:PySem.W.subIn K (.ref C) (.ref D)=some true)(h:Q true s) :
  wpAny M A (excMatches (.ref x) (.ref D)) Q E s:=by
 have L1:PySem.W.Looks M s.heap (typeOf (.ref D)) (.type "type"):=PySem.W.looks_typeIn Z ht
 have L2:PySem.W.Looks M s.heap (isType (.ref D)) true:=by
  unfold PySem.W.isClsIn PySem.W.clsIn at hD
  split at hD
  next c' d' PK xu hk =>
   intro A' Q' E' s' k z
   unfold isType loadHead
   exact wpAny_bind (wpAny_loadPart (k _ _ (Z _ _ hk)) (wpAny_pure z))
  next=>cases hD
 have L3:PySem.W.Looks M s.heap (isSubtype (.ref D) (.type "BaseException")) true:=PySem.W.looks_subIn Z hb
 have L4:PySem.W.Looks M s.heap (typeOf (.ref x)) (.ref C):=hc ▸ (PySem.W.Looks.ld ho).andThen .now
 have L5:PySem.W.Looks M s.heap (isSubtype (.ref C) (.ref D)) true:=PySem.W.looks_subIn Z hs
 obtain ⟨hh,g,d,tk,os⟩:=s
 have f:=tc_notTuple
 have L0:PySem.W.Looks M hh (isSubtype (.type "type") (.type "tuple")) false:=PySem.W.Looks.of_pure f
 unfold excMatches isExcClass isInstance
 repeat (first | lk | simp only [List.forIn_cons,List.forIn_nil,Bool.not_true,Bool.false_eq_true,if_false,if_true])
 exact h
theorem Inv.wV {X:Cx}{pins:List (Addr×Obj)}{σ:St}{H:Hp}{s:Shared}{M:Model}{A:Around}{E:Value->Shared->Prop}{i:Nat}{n:Str}{pos:Pos}{Q:Unit->Shared->Prop}(I:Inv X pins σ H s)(hN:X.N.Nodup)(hi:X.N[i]?=some n)(hl:X.env.scope.names.lookup n=some .local)(h:∀ s',Inv X pins (σ.set i none) H s'->Q () s'):wpAny M A (do bindName X.env n .none;unbindBehindTheSuite X.env n pos) Q E s:=by
 obtain ⟨m,hn,hm⟩:=id I.loc
 refine wpAny_nameGoes_keeps hl hn (by rw [I.ok.kind];rfl) fun h' v DY hs=>h _ ?_
 have gw:H X.env.locals=none:=I.free
 have qJ:∀ b o,X.cy.heap.get? b=some o->b ≠ X.env.locals:=fun b o e=>Nat.ne_of_lt (Nat.lt_of_lt_of_le (Heap.lt_size e) I.ok.above)
 refine ⟨I.ok,I.os,I.bare,⟨fun b o e k hb hx=>(hs.2 b (qJ b o e)).trans (I.base.keep b o e k hb hx),fun b o e k hb hx=>?_,I.base.free,fun b o e hx=>?_,I.base.eh,I.base.dR,I.base.eu⟩,⟨_,DY,fun j y u e1 e2 e3=>?_⟩,fun y c e=>?_,I.free,I.fA,fun p hp=>?_,fun b ob e=>?_,by simpa using I.len⟩
 ·obtain ⟨sl,q⟩:=I.base.slot b o e k hb hx
  exact ⟨sl,(hs.2 b (qJ b o e)).trans q⟩
 ·obtain ⟨o',q⟩:=I.base.there b o e hx
  exact ⟨o',(hs.2 b (qJ b o e)).trans q⟩
 ·by_cases hj:j=i
  ·subst hj
   have aZ:j < σ.length:=by rw [I.len];exact (List.getElem?_eq_some_iff.mp hi).1
   rw [List.getElem?_set_self aZ] at e2
   cases e2
  ·rw [List.getElem?_set_ne (Ne.symm hj)] at e2
   obtain ⟨u',r',q⟩:=hm j y u e1 e2 e3
   refine ⟨u',r',?_⟩
   rcases q with ⟨k,e⟩ | ⟨k,c,e,z⟩
   ·refine .inl ⟨k,?_⟩
    have ne:y ≠ n:=fun e=>hj (Aw hN e1 (e ▸ hi))
    show (if y=n then v else m y)=some u'
    rw [if_neg ne]
    exact e
   ·exact .inr ⟨k,c,e,z.sameBut hs (I.kU y c e)⟩
 ·obtain ⟨w',z⟩:=I.cell y c e
  exact ⟨w',z.sameBut hs (I.kU y c e)⟩
 ·obtain ⟨e,k,ne,nf,d⟩:=I.pin p hp
  exact ⟨(hs.2 p.1 ne).trans e,k,ne,nf,d⟩
 ·refine (I.av b ob e).iq (fun c w' hc q=>(hs.2 c ?_).trans q) (fun _ q=>q) fun _ _ q=>q
  rintro rfl
  rcases hc with z | z
  ·rw [<- z,gw] at e;cases e
  ·rw [gw] at z;cases z
end L2
namespace L2
open PySem PySem.Spec PyProof.Rows PySem.W PySem.Builtin PySem.Builtin.ObjectAttr PySem.Builtin.Getset_descriptor
structure gq (K:PySem.W.Frag) (C:Addr):Prop where
 ga:findIn K (.ref C) "__getattribute__" = some (some (.builtin "BaseException.__getattribute__"))
 gt:findIn K (.ref C) "__getattr__" = some none
 cl:findIn K (.ref C) "__class__" = some (some (.builtin "object.__class__"))
 sp:specialIn K (.builtin "object.__class__") "__get__" = some (some (.builtin "getset_descriptor.__get__"))
 tk:takesIn K (.builtin "object.__class__")=some true
 ob:mroIn K C (.type "object")=some true
 is:isClsIn K C=true
 bx:mroIn K C (.type "BaseException")=some true
def ExcAt (x C:Addr)(h:Heap):Prop:=∃ o vs,h.get? x=some o/\o.cls=.ref C/\o.data=.fields vs
section
variable {K:PySem.W.Frag}{x C:Addr}
theorem ExcAt.ty {M:Model}{h:Heap}(p:ExcAt x C h):Looks M h (typeOf (.ref x)) (.ref C):=by
 obtain ⟨o,vs,ho,hc,_⟩:=p
 exact hc ▸ (Looks.ld ho).andThen .now
theorem gq.ZY {M:Model}{h:Heap}(a:gq K C)(Z:K.In h):Looks M h (isType (.ref C)) true:=by
 have hD:=a.is
 unfold isClsIn clsIn at hD
 split at hD
 next c' d' PK xu hk =>
  intro A' Q' E' s' k z
  unfold isType loadHead
  exact wpAny_bind (wpAny_loadPart (k _ _ (Z _ _ hk)) (wpAny_pure z))
 next=>cases hD
theorem gq.found {M:Model}{h:Heap}(a:gq K C)(Z:K.In h):Looks M h (find (.ref x) (.ref C) "__class__") (.bind (.builtin "getset_descriptor.__get__") (.builtin "object.__class__")):=by
 have L1:=looks_findIn (M:=M) Z a.cl
 have L2:Looks M h (getOf (some (.builtin "object.__class__"))) (some (.builtin "getset_descriptor.__get__")):=looks_specialIn Z a.sp
 have L3:=looks_takesIn (M:=M) Z a.tk
 refine L1.andThen (L2.andThen ?_)
 have L4:Looks M h (dataDescriptor? (some (.builtin "object.__class__")) (some (.builtin "getset_descriptor.__get__"))) (some (.builtin "getset_descriptor.__get__",.builtin "object.__class__")):=L3.andThen .now
 exact L4.andThen (Looks.tag .now)
variable {prog:Program}{w:World}{A:Around}{E:Value->Shared->Prop}{s:Shared}
theorem gq.got {tp:Value}{R:Result->Shared->Prop}(a:gq K C)(Z:K.In s.heap)(p:ExcAt x C s.heap)(h:R (.ok (.ret (.ref C))) s) :
  codeAny (model prog w) A (.call (.builtin "getset_descriptor.__get__") ⟨[.builtin "object.__class__",.ref x,tp],[]⟩) R s:=by
 obtain ⟨hp,gn,dr,tt,oo⟩:=s
 have T0:=p.ty (M:=model prog w)
 have T1:=looks_mroIn (M:=model prog w) Z a.ob
 refine codeAny_call_builtin KF.slot_gs.plain KF.entry_gs (KF.slot_gs.check _ _ _ _ _ _ _ _ KF.type_class (KF.args_gs _ _ _) ?_)
 unfold Builtin.«getset_descriptor.__get__» descrGet
 rw [dga_obj]
 refine wpAny_bind (wpAny_pure ?_)
 unfold descrGetter descrCheckInstance
 unfold descrNameAndClass isInstance
 simp only [KF.owner_class]
 repeat lk
 refine ⟨Code.quiet_builtin _ (by decide +kernel),codeAny_builtin KF.entry_class ?_⟩
 unfold Builtin.«object.__class__» shownTypeOf
 repeat lk
 exact h
theorem gq.check {M:Model}{nv:Value}{Q:Unit->Shared->Prop}(a:gq K C)(Z:K.In s.heap)(p:ExcAt x C s.heap)(h:Q () s):wpAny M A (checkBuiltinCall "BaseException.__getattribute__" ⟨[.ref x,nv],[]⟩) Q E s:=by
 obtain ⟨hp,gn,dr,tt,oo⟩:=s
 have T0:=p.ty (M:=M)
 have T1:=looks_mroIn (M:=M) Z a.bx
 have hk:builtinKind "BaseException.__getattribute__" = some .slot:=by decide +kernel
 have hs:splitId "BaseException.__getattribute__" = some ("BaseException", "__getattribute__"):=by decide +kernel
 have ha:=F.args_bexc_ga (.ref x) nv
 simp only [checkBuiltinCall,hk,hs]
 refine wpAny_bind ?_
 unfold isInstance
 repeat (first | lk | wp_step)
 exact h
theorem gq.entry {tk:Tok}{Q:Fin->Shared->Prop}(a:gq K C)(Z:K.In s.heap)(p:ExcAt x C s.heap)(h:Q (.done (.ret (.ref C))) s):wpAny (model prog w) A (Builtin.«object.__getattribute__» ⟨[.ref x,.str "__class__" tk],[]⟩) Q E s:=by
 obtain ⟨hp,gn,dr,tt,oo⟩:=s
 have T0:=p.ty (M:=model prog w)
 have T3:=a.found (M:=model prog w) (x:=x) Z
 unfold Builtin.«object.__getattribute__»
 repeat (first | (with_reducible refine Looks.at (by assumption) ?_) | wp_step)
 refine a.got (s:=⟨hp,gn,dr,tt,oo⟩) Z p ?_
 repeat (first | assumption | wp_step)
theorem gq.attr {Q:Option Value->Shared->Prop}(a:gq K C)(Z:K.In s.heap)(p:ExcAt x C s.heap)(h:Q (some (.ref C)) { s with toks:=s.toks+1 }):wpAny (model prog w) A (getAttr? (.ref x) "__class__") Q E s:=by
 obtain ⟨hp,gn,dr,tt,oo⟩:=s
 have T0:=p.ty (M:=model prog w)
 have T1:=looks_findIn (M:=model prog w) Z a.ga
 have T2:=looks_findIn (M:=model prog w) Z a.gt
 have hb:=F.attr_ValueError.ga.bind (.ref x)
 have nZ:(onTheHeap (Value.ref C)&&Value.builtin "BaseException.__getattribute__" == Value.builtin "object.__getattribute__")=false:=by
  rw [show (Value.builtin "BaseException.__getattribute__" == Value.builtin "object.__getattribute__")=false by decide +kernel]
  rfl
 unfold getAttr? getAttrBy?
 unfold getAttrBy
 refine wpAny_bind (wpAny_mkText (wpAny_bind (wpAny_attempt (wpAny_holding (wpAny_bind (T0.at (wpAny_bind (T1.at ?_))))))))
 simp only [nZ,Bool.false_eq_true,if_false]
 unfold getAttrByItsOwn
 refine wpAny_bind (show wpAny _ _ (typeLookup (.ref C) "__getattr__") _ _ _ from T2.at ?_)
 refine wpAny_bind (wpAny_attempt (wpAny_holding ?_))
 show wpAny _ _ (boundAndCalled (.builtin "BaseException.__getattribute__") (.ref x) _) _ _ _
 unfold boundAndCalled
 rw [hb]
 refine wpAny_bind (wpAny_pure (wpAny_call (codeAny_call_builtin F.attr_ValueError.ga.plain F.entry_bexc_ga (a.check Z p (a.entry Z p ?_)))))
 exact handed_on rfl (wpAny_pure h)
theorem U4 (a:gq K C):KitX K (.ref x) (.ref C) (ExcAt x C) where
 ty:=fun _ _ _ p=>p.ty
 it:=fun _ _ Z _=>a.ZY Z
 ne:=fun h tp dd its n sl Z htp=>by
  refine Bool.eq_false_iff.mpr fun q=>?_
  have e:C=tp:=Value.ref.inj (beq_iff_eq.mp q)
  subst e
  have hD:=a.is
  unfold isClsIn clsIn at hD
  split at hD
  next c' d' PK xu hk =>
   have z:=(Z _ _ hk).symm.trans htp
   cases z
  next=>cases hD
 ca:=fun Z p k=>a.attr Z p k
end
end L2
namespace L2
open PySem PySem.Spec PyProof.Rows
theorem ai.tup {K:PySem.W.Frag}{H H':Hp}{a:Addr}{xs:List V}(e:ai H H')(h:cM K H a xs):cM K H' a xs:=by
 rcases h with (h | ⟨o,h⟩) | h
 ·exact .inl (.inl (e _ _ h))
 ·exact .inl (.inr ⟨o,e _ _ h⟩)
 ·exact .inr h
theorem ai.upd {H H':Hp}{p:Addr}{o:HO}(e:ai H H')(hp:H p=none):ai H (L2.upd H' p o):=fun b u h=>by
 rw [aP (iR h hp)];exact e b u h
theorem ai.new {H:Hp}{p:Addr}{o:HO}(hp:H p=none):ai H (L2.upd H p o):=(ai.refl H).upd hp
theorem jQ {a:Int}(h0 : 0<=a)(h:a<2 ^ 60):a.natAbs<2 ^ 8000:=by
 have big:(2:Nat) ^ 60<2 ^ 8000:=Nat.pow_lt_pow_right (by decide) (by decide)
 omega
section
variable {P:Program}{w:World}{K:PySem.W.Frag}{mg:Str->Option Value}{base:Heap}
theorem bg.d {x qual:Str}{st:Stmt}{f:Addr}{fd:FuncData}(F:bg K x qual st f fd):iw K x qual st .none f fd:=⟨F.ex,F.kp⟩
end
theorem PS.e8 {X:Cx}{st:Stmt}{t:TS}(h:PS X.e8 st t):PS X st t:=fun pins s σ H D I hw =>
 wpAny_mono (h pins s σ H D (I.fD _) hw) (fun _ _ q=>q.hZ) fun _ _ z=>False.elim z
section
variable {X:Cx}{tg:Expr}
theorem U5 {bs:List Bool}{its:List Value}(r:Vals (bs.map V.bl) its):PyProof.Rows.LSm.BoolsAre its bs:=by
 induction bs generalizing its with
 |nil=>cases r;exact .nil
 |cons y ys ih =>
  cases r with
  |cons r1 rr =>
   cases r1
   exact .cons _ (ih rr)
end
inductive Tr where
 |fz (d:Dv)
 |ow (ts:List Tr)
 |tp (ts:List Tr)
mutual
def Ow (K:PySem.W.Frag)(G H:Hp):Tr->V->List Addr->Prop
 | .fz d,v,fp=>fp=[]/\Hv K G d v
 | .ow ts,v,fp=>∃ a vs fq,v=.ref a/\H a=some (.lst vs)/\aG K G H ts vs fq/\fp=a::fq
 | .tp ts,v,fp=>∃ a vs fq,v=.ref a/\H a=some (.tup vs)/\aG K G H ts vs fq/\fp=a::fq
def aG (K:PySem.W.Frag)(G H:Hp):List Tr->List V->List Addr->Prop
 |[],vs,fp=>vs=[]/\fp=[]
 |t::ts,vs,fp=>∃ v r f1 f2,vs=v::r/\fp=f1++f2/\Ow K G H t v f1/\aG K G H ts r f2
end
mutual
def er:Tr->Dv
 | .fz d=>d
 | .ow ts=>.lst (cE ts)
 | .tp ts=>.tup (cE ts)
def cE:List Tr->List Dv
 |[] => []
 |t::ts=>er t::cE ts
end
theorem kC:∀ ts:List Tr,cE ts=ts.map er
 |[] => rfl
 |t::ts=>by rw [cE,kC ts];rfl
mutual
theorem Hv.mono {K:PySem.W.Frag}{G G':Hp}(e:ai G G'):∀ {d:Dv} {v:V},Hv K G d v->Hv K G' d v
 | .fl _,_,h=>h
 | .lst ds,_,⟨a,xs,h1,h2,h3⟩=>⟨a,xs,h1,e.seq h2,aO.mono e h3⟩
 | .tup ds,_,⟨a,xs,h1,h2,h3⟩=>⟨a,xs,h1,e.tup h2,aO.mono e h3⟩
theorem aO.mono {K:PySem.W.Frag}{G G':Hp}(e:ai G G'):∀ {ds:List Dv} {vs:List V},aO K G ds vs->aO K G' ds vs
 |[],_,h=>h
 |_::_,_,⟨x,r,h1,h2,h3⟩=>⟨x,r,h1,h2.mono e,aO.mono e h3⟩
end
mutual
theorem Ow.mono {K:PySem.W.Frag}{G G' H H':Hp}(e:ai G G')(e':ai H H'):∀ {t:Tr} {v:V} {fp:List Addr},Ow K G H t v fp->Ow K G' H' t v fp
 | .fz _,_,_,⟨h1,h2⟩=>⟨h1,h2.mono e⟩
 | .ow _,_,_,⟨a,vs,fq,h1,h2,h3,h4⟩=>⟨a,vs,fq,h1,e' _ _ h2,aG.mono e e' h3,h4⟩
 | .tp _,_,_,⟨a,vs,fq,h1,h2,h3,h4⟩=>⟨a,vs,fq,h1,e' _ _ h2,aG.mono e e' h3,h4⟩
theorem aG.mono {K:PySem.W.Frag}{G G' H H':Hp}(e:ai G G')(e':ai H H'):∀ {ts:List Tr} {vs:List V} {fp:List Addr},aG K G H ts vs fp->aG K G' H' ts vs fp
 |[],_,_,h=>h
 |_::_,_,_,⟨v,r,f1,f2,h1,h2,h3,h4⟩=>⟨v,r,f1,f2,h1,h2,h3.mono e e',aG.mono e e' h4⟩
end
mutual
theorem Ow.frame {K:PySem.W.Frag}{G H:Hp}{a:Addr}{o:HO}:∀ {t:Tr} {v:V} {fp:List Addr},Ow K G H t v fp->a ∉ fp->Ow K G (upd H a o) t v fp
 | .fz _,_,_,h,_=>h
 | .ow _,_,_,⟨b,vs,fq,h1,h2,h3,h4⟩,n=>by
  subst h4
  refine ⟨b,vs,fq,h1,?_,aG.frame h3 fun z=>n (.tail _ z),rfl⟩
  rw [aP fun z=>n (by rw [z];exact .head _)]
  exact h2
 | .tp _,_,_,⟨b,vs,fq,h1,h2,h3,h4⟩,n=>by
  subst h4
  refine ⟨b,vs,fq,h1,?_,aG.frame h3 fun z=>n (.tail _ z),rfl⟩
  rw [aP fun z=>n (by rw [z];exact .head _)]
  exact h2
theorem aG.frame {K:PySem.W.Frag}{G H:Hp}{a:Addr}{o:HO}:∀ {ts:List Tr} {vs:List V} {fp:List Addr},aG K G H ts vs fp->a ∉ fp->aG K G (upd H a o) ts vs fp
 |[],_,_,h,_=>h
 |_::_,_,_,⟨v,r,f1,f2,h1,h2,h3,h4⟩,n=>by
  subst h2
  exact ⟨v,r,f1,f2,h1,rfl,h3.frame fun z=>n (List.mem_append_left _ z),aG.frame h4 fun z=>n (List.mem_append_right _ z)⟩
end
mutual
theorem Ow.there {K:PySem.W.Frag}{G H:Hp}:∀ {t:Tr} {v:V} {fp:List Addr},Ow K G H t v fp->∀ a ∈ fp,∃ o,H a=some o
 | .fz _,_,_,⟨h,_⟩,a,ha=>by subst h;cases ha
 | .ow _,_,_,⟨b,vs,fq,h1,h2,h3,h4⟩,a,ha=>by
  subst h4
  rcases List.mem_cons.mp ha with rfl | ha
  ·exact ⟨_,h2⟩
  ·exact aG.there h3 a ha
 | .tp _,_,_,⟨b,vs,fq,h1,h2,h3,h4⟩,a,ha=>by
  subst h4
  rcases List.mem_cons.mp ha with rfl | ha
  ·exact ⟨_,h2⟩
  ·exact aG.there h3 a ha
theorem aG.there {K:PySem.W.Frag}{G H:Hp}:∀ {ts:List Tr} {vs:List V} {fp:List Addr},aG K G H ts vs fp->∀ a ∈ fp,∃ o,H a=some o
 |[],_,_,⟨_,h⟩,a,ha=>by subst h;cases ha
 |_::_,_,_,⟨v,r,f1,f2,h1,h2,h3,h4⟩,a,ha=>by
  subst h2
  rcases List.mem_append.mp ha with ha | ha
  ·exact h3.there a ha
  ·exact aG.there h4 a ha
end
mutual
theorem Ow.hv {K:PySem.W.Frag}{G H G':Hp}(e:ai G G'):∀ {t:Tr} {v:V} {fp:List Addr},Ow K G H t v fp->(∀ a ∈ fp,G' a=H a)->Hv K G' (er t) v
 | .fz _,_,_,⟨_,h⟩,_=>h.mono e
 | .ow _,_,_,⟨b,vs,fq,h1,h2,h3,h4⟩,q=>by
  subst h4
  exact ⟨b,vs,h1,aH.of ((q b (.head _)).trans h2),aG.hv e h3 fun a ha=>q a (.tail _ ha)⟩
 | .tp _,_,_,⟨b,vs,fq,h1,h2,h3,h4⟩,q=>by
  subst h4
  exact ⟨b,vs,h1,cM.of ((q b (.head _)).trans h2),aG.hv e h3 fun a ha=>q a (.tail _ ha)⟩
theorem aG.hv {K:PySem.W.Frag}{G H G':Hp}(e:ai G G'):∀ {ts:List Tr} {vs:List V} {fp:List Addr},aG K G H ts vs fp->(∀ a ∈ fp,G' a=H a)->aO K G' (cE ts) vs
 |[],_,_,⟨h,_⟩,_=>h
 |_::_,_,_,⟨v,r,f1,f2,h1,h2,h3,h4⟩,q=>by
  subst h2
  exact ⟨v,r,h1,h3.hv e fun a ha=>q a (List.mem_append_left _ ha),aG.hv e h4 fun a ha=>q a (List.mem_append_right _ ha)⟩
end
theorem aG.length {K:PySem.W.Frag}{G H:Hp}:∀ {ts:List Tr} {vs:List V} {fp:List Addr},aG K G H ts vs fp->ts.length=vs.length
 |[],_,_,⟨h,_⟩=>by subst h;rfl
 |_::_,_,_,⟨v,r,f1,f2,h1,h2,h3,h4⟩=>by subst h1;rw [List.length_cons,List.length_cons,aG.length h4]
theorem aG.append {K:PySem.W.Frag}{G H:Hp}:∀ {ts us:List Tr} {vs ws:List V} {f1 f2:List Addr},aG K G H ts vs f1->aG K G H us ws f2->aG K G H (ts++us) (vs++ws) (f1++f2)
 |[],us,_,ws,_,f2,⟨h,h'⟩,q=>by subst h h';exact q
 |_::_,us,_,ws,_,f2,⟨v,r,g1,g2,h1,h2,h3,h4⟩,q=>by
  subst h1 h2
  exact ⟨v,r++ws,g1,g2++f2,rfl,by rw [List.append_assoc],h3,aG.append h4 q⟩
theorem aO.gW {K:PySem.W.Frag}{G H:Hp}:∀ {ds:List Dv} {vs:List V},aO K G ds vs->aG K G H (ds.map .fz) vs []
 |[],_,h=>⟨h,rfl⟩
 |_::_,_,⟨x,r,h1,h2,h3⟩=>⟨x,r,[],[],h1,rfl,⟨rfl,h2⟩,aO.gW h3⟩
structure Step (G H G' H':Hp):Prop where
 g:ai G G'
 h:ai H H'
 s:ai G' H'
 n:∀ a,G a=none->G' a ≠ none->H a=none
theorem Step.refl {G H:Hp}(s:ai G H):Step G H G H:=⟨ai.refl _,ai.refl _,s,fun a h h'=>absurd h h'⟩
theorem Step.trans {G H G1 H1 G2 H2:Hp}(a:Step G H G1 H1)(b:Step G1 H1 G2 H2):Step G H G2 H2 :=
 ⟨a.g.trans b.g,a.h.trans b.h,b.s,fun x h h'=>by
  cases q:G1 x with
  |none=>exact a.h.free (b.n x q h')
  |some o=>exact a.n x h (by rw [q];exact fun z=>nomatch z)⟩
theorem ai.ZZ {G H:Hp}{p:Addr}{o:HO}(s:ai G H):ai (L2.upd G p o) (L2.upd H p o):=fun b u h=>by
 unfold L2.upd at h ⊢
 split
 ·rename_i e;rw [if_pos e] at h;exact h
 ·rename_i e;rw [if_neg e] at h;exact s b u h
theorem Step.new {G H:Hp}{p:Addr}{o:HO}(s:ai G H)(hp:H p=none):Step G H (upd G p o) (upd H p o) :=
 ⟨ai.new (s.free hp),ai.new hp,s.ZZ,fun a h h'=>by
  by_cases e:a=p
  ·subst e;exact hp
  ·rw [aP e] at h';exact absurd h h'⟩
theorem Step.gO {G H:Hp}{p:Addr}{o:HO}(s:ai G H)(hp:H p=none):Step G H G (upd H p o) :=
 ⟨ai.refl _,ai.new hp,s.trans (ai.new hp),fun a h h'=>absurd h h'⟩
structure Nw (H G':Hp) (fq:List Addr):Prop where
 n:∀ a ∈ fq,H a=none
 g:∀ a ∈ fq,G' a=none
 d:fq.Nodup
theorem Nw.nil {H G:Hp}:Nw H G []:=⟨fun _ h=>(nomatch h),fun _ h=>(nomatch h),.nil⟩
def Kv (K:PySem.W.Frag)(G H:Hp)(t:Tr)(Q:VK):Prop:=∀ v G' H' fq,Step G H G' H'->Ow K G' H' t v fq->Nw H G' fq->Q v H'
theorem Kv.step {K:PySem.W.Frag}{G H G1 H1:Hp}{t:Tr}{Q:VK}(k:Kv K G H t Q)(e:Step G H G1 H1):Kv K G1 H1 t Q:=fun v G' H' fq st o w =>
 k v G' H' fq (e.trans st) o ⟨fun a ha=>e.h.free (w.n a ha),w.g,w.d⟩
def dk (G H:Hp)(fq:List Addr):Hp:=fun a=>if a ∈ fq then H a else G a
theorem iU {G H:Hp}{fq:List Addr}{a:Addr}(h:a ∈ fq):dk G H fq a=H a:=by unfold dk;rw [if_pos h]
theorem pE {G H:Hp}{fq:List Addr}{a:Addr}(h:a ∉ fq):dk G H fq a=G a:=by unfold dk;rw [if_neg h]
theorem g9 {G H:Hp}{fq:List Addr}(h:∀ a ∈ fq,G a=none):ai G (dk G H fq):=fun b o e=>by
 by_cases q:b ∈ fq
 ·rw [h b q] at e;cases e
 ·rw [pE q];exact e
theorem lN {G H:Hp}{fq:List Addr}(s:ai G H):ai (dk G H fq) H:=fun b o e=>by
 by_cases q:b ∈ fq
 ·rw [iU q] at e;exact e
 ·rw [pE q] at e;exact s b o e
theorem Step.cK {G H G' H':Hp}{fq:List Addr}(e:Step G H G' H')(w:Nw H G' fq):Step G H (dk G' H' fq) H' :=
 ⟨e.g.trans (g9 w.g),e.h,lN e.s,fun a h h'=>by
  by_cases q:a ∈ fq
  ·exact w.n a q
  ·rw [pE q] at h';exact e.n a h h'⟩
structure aY (ι:Type) where
 cx : ι->Cx
 P:Program
 w:World
 K:PySem.W.Frag
 mg:Str->Option Value
 base:Heap
 room:Nat
 hP:∀ i,(cx i).prog=P
 hw:∀ i,(cx i).w=w
 hK:∀ i,(cx i).K=K
 hm:∀ i,(cx i).mg=mg
 hb:∀ i,(cx i).base=base
 hr:∀ i,cQ room (cx i).A
 calm:∀ i,(cx i).calm=true
abbrev En:=List (Option Tr)
def cj (K:PySem.W.Frag)(G:Hp)(ρ:En)(σ:St):Prop:=∀ (j:Nat) (d:Dv),ρ[j]?=some (some (Tr.fz d))->∃ v,σ[j]?=some (some v)/\Hv K G d v
theorem cj.mono {K:PySem.W.Frag}{G G':Hp}{ρ:En}{σ:St}(e:ai G G')(r:cj K G ρ σ):cj K G' ρ σ:=fun j d h=>by
 obtain ⟨v,h1,h2⟩:=r j d h
 exact ⟨v,h1,h2.mono e⟩
section
variable {ι:Type}
def Ev (F:aY ι)(e:Expr)(ρ:En)(t:Tr):Prop:=∃ τ:TE,(∀ i,PE (F.cx i) e τ)/\∀ σ G H Q,ai G H->cj F.K G ρ σ->Kv F.K G H t Q->τ σ H Q
def Et (F:aY ι)(e:Expr)(ρ:En)(b:Bool):Prop:=∃ τ:TT,(∀ i,PT (F.cx i) e τ)/\∀ σ G H Q,ai G H->cj F.K G ρ σ->(∀ G' H',Step G H G' H'->Q b H')->τ σ H Q
def eG (F:aY ι)(es:List Expr)(ρ:En)(ts:List Tr):Prop:=∃ τ:TA,(∀ i,PA (F.cx i) es τ)/\∀ σ G H Q,ai G H->cj F.K G ρ σ ->
 (∀ vs G' H' fq,Step G H G' H'->aG F.K G' H' ts vs fq->Nw H G' fq->Q vs H')->τ σ H Q
variable {F:aY ι}{e a b:Expr}{es:List Expr}{ρ:En}{t ta tb:Tr}{ts:List Tr}
theorem Ev.use (h:Ev F e ρ t):∃ τ:TE,(∀ i,PE (F.cx i) e τ)/\∀ σ G H (Q:VK),ai G H->cj F.K G ρ σ->(∀ v G' H',Step G H G' H'->Hv F.K G' (er t) v->Q v H')->τ σ H Q:=by
 obtain ⟨τ,p,q⟩:=h
 refine ⟨τ,p,fun σ G H Q s r k=>q σ G H Q s r fun v G' H' fq st o w=>?_⟩
 exact k v (dk G' H' fq) H' (st.cK w) (o.hv (g9 w.g) fun a ha=>iU ha)
theorem Ev.fz (h:Ev F e ρ t):Ev F e ρ (.fz (er t)):=by
 obtain ⟨τ,p,q⟩:=h.use
 exact ⟨τ,p,fun σ G H Q s r k=>q σ G H Q s r fun v G' H' st hv=>k v G' H' [] st ⟨rfl,hv⟩ .nil⟩
theorem Ev.as {d:Dv}(h:Ev F e ρ t)(ed:er t=d):Ev F e ρ (.fz d):=ed ▸ h.fz
theorem eG.use (h:eG F es ρ ts):∃ τ:TA,(∀ i,PA (F.cx i) es τ)/\∀ σ G H (Q:List V->Hp->Prop),ai G H->cj F.K G ρ σ->(∀ vs G' H',Step G H G' H'->aO F.K G' (cE ts) vs->Q vs H')->τ σ H Q:=by
 obtain ⟨τ,p,q⟩:=h
 refine ⟨τ,p,fun σ G H Q s r k=>q σ G H Q s r fun v G' H' fq st o w=>?_⟩
 exact k v (dk G' H' fq) H' (st.cK w) (o.hv (g9 w.g) fun a ha=>iU ha)
theorem aq:eG F [] ρ []:=⟨cI,fun i=>bu,fun σ G H Q s r k=>k [] G H [] (.refl s) ⟨rfl,rfl⟩ .nil⟩
theorem Nw.app {H G1 H1 G2:Hp}{f1 f2:List Addr}(w1:Nw H G1 f1)(w2:Nw H1 G2 f2)(hh:ai H H1)(th:∀ a ∈ f1,∃ o,H1 a=some o)(hg:∀ a,G1 a=none->G2 a ≠ none->H1 a=none):Nw H G2 (f1++f2) :=
 ⟨fun a ha=>(List.mem_append.mp ha).elim (w1.n a) fun z=>hh.free (w2.n a z),fun a ha=>(List.mem_append.mp ha).elim (fun z=>by
   cases q:G2 a with
   |none=>rfl
   |some o =>
    obtain ⟨u,hu⟩:=th a z
    have:=hg a (w1.g a z) (by rw [q];exact fun z=>nomatch z)
    rw [hu] at this;cases this) (w2.g a),
  List.nodup_append.mpr ⟨w1.d,w2.d,fun a ha b hb e=>by
   subst e
   obtain ⟨u,hu⟩:=th a ha
   rw [w2.n a hb] at hu;cases hu⟩⟩
theorem af (ha:Ev F e ρ t)(hr:eG F es ρ ts)(hs:∀ i,starEach (e::es) (F.cx i).env=(false,eval e (F.cx i).env)::starEach es (F.cx i).env:=by intro _;rfl):eG F (e::es) ρ (t::ts):=by
 obtain ⟨τ,p,q⟩:=ha
 obtain ⟨bK,p',q'⟩:=hr
 refine ⟨bY τ bK,fun i=>aF (p i) (p' i) (hs i),fun σ G H Q s r k=>?_⟩
 refine q σ G H _ s r fun v G1 H1 f1 s1 o1 w1=>q' σ G1 H1 _ s1.s (r.mono s1.g) fun vs G2 H2 f2 s2 o2 w2=>?_
 exact k (v::vs) G2 H2 (f1++f2) (s1.trans s2) ⟨v,vs,f1,f2,rfl,rfl,o1.mono s2.g s2.h,o2⟩ (w1.app w2 s1.h (fun a ha=>o1.there a ha) s2.n)
end
end L2
namespace L2
open PySem PySem.Spec PyProof.Rows
abbrev di (n:Int):Dv:=.fl (.int n)
abbrev db (b:Bool):Dv:=.fl (.bl b)
abbrev dn:Dv:=.fl .aS
abbrev ds (x:Str):Dv:=.fl (.str x)
abbrev dis (ns:List Int):Dv:=.lst (ns.map di)
abbrev ti (n:Int):Tr:=.fz (di n)
abbrev tb (b:Bool):Tr:=.fz (db b)
abbrev tn:Tr:=.fz dn
abbrev tx (x:Str):Tr:=.fz (ds x)
theorem Kv.sc {K:PySem.W.Frag}{G H:Hp}{v:V}{Q:VK}(k:Kv K G H (.fz (.fl v)) Q)(s:ai G H)(f:eX v=true):Q v H:=k v G H [] (.refl s) ⟨rfl,rfl,f⟩ .nil
theorem Kv.dat {K:PySem.W.Frag}{G H:Hp}{d:Dv}{v:V}{Q:VK}(k:Kv K G H (.fz d) Q)(s:ai G H)(h:Hv K G d v):Q v H:=k v G H [] (.refl s) ⟨rfl,h⟩ .nil
theorem Kv.lst {K:PySem.W.Frag}{G H:Hp}{ts:List Tr}{vs:List V}{Q:VK}(k:Kv K G H (.ow ts) Q)(s:ai G H)(h:aG K G H ts vs []){p:Addr}(hp:H p=none):Q (.ref p) (upd H p (.lst vs)) :=
 k (.ref p) G _ [p] (.gO s hp) ⟨p,vs,[],rfl,bE,h.mono (ai.refl _) (ai.new hp),rfl⟩ ⟨fun a ha=>by rw [List.mem_singleton.mp ha];exact hp,fun a ha=>by rw [List.mem_singleton.mp ha];exact s.free hp,by simp⟩
theorem bf {K:PySem.W.Frag}{G:Hp}{v x:V}(h:Hv K G (.fl v) x):x=v:=h.1
section
variable {ι:Type}{F:aY ι}{e a b c:Expr}{es:List Expr}{ρ:En}{t ta tb':Tr}{ts:List Tr}{pos:Pos}
theorem ae (j:Nat){d:Dv}{x:Str}(h : ρ[j]?=some (some (.fz d)))(hN:∀ i,(F.cx i).N[j]?=some x:=by intro _;rfl)(hv:∀ i,jt (F.cx i).env.scope x:=by intro _;first | exact Or.inl rfl | exact Or.inr (Or.inl rfl) | exact Or.inr (Or.inr rfl))(hd:(x==("__debug__" : Str))=false:=by decide)(hc:(x==("__classdict__" : Str))=false:=by decide):Ev F (.Name x pos) ρ (.fz d) :=
 ⟨bT j,fun i=>ni (hN i) (hv i) hd hc,fun σ G H Q s r k=>by
  obtain ⟨v,h1,h2⟩:=r j d h
  exact ⟨v,h1,k.dat s h2⟩⟩
theorem ak {n:Int}{j:Nat}:Ev F (.Constant (.int n) j pos) ρ (ti n):=⟨_,fun i=>nj,fun σ G H Q s r k=>k.sc s rfl⟩
theorem X9 {j:Nat}:Ev F (.Constant .none j pos) ρ tn:=⟨_,fun i=>XN,fun σ G H Q s r k=>k.sc s rfl⟩
theorem gK {n:Str}{j:Nat}:Ev F (.Constant (.str n) j pos) ρ (tx n):=⟨_,fun i=>Ls,fun σ G H Q s r k=>k.sc s rfl⟩
theorem ng {x:Str}{v:V}{u:Value}(hm:F.mg x=some u)(r:RelV v u)(f:eX v=true)(hg:∀ i,Gl (F.cx i) x:=by intro _;rfl)(hd:(x==("__debug__" : Str))=false:=by decide):Ev F (.Name x pos) ρ (.fz (.fl v)) :=
 ⟨tC v,fun i=>gJ (hg i) ((F.hm i).symm ▸ hm) r hd,fun σ G H Q s _ k=>k.sc s f⟩
theorem pQ {op:Operator}{r:R2}(ho:∀ i,cV (F.cx i) (binaryOp op) r)(ha:Ev F a ρ ta)(hb:Ev F b ρ tb')(h:∀ G H x y Q,ai G H->Hv F.K G (er ta) x->Hv F.K G (er tb') y->Kv F.K G H t Q->r x y H Q):Ev F (.BinOp a op b pos) ρ t:=by
 obtain ⟨τ,p,q⟩:=ha.use
 obtain ⟨bK,p',q'⟩:=hb.use
 refine ⟨iF r τ bK,fun i=>sS (ho i) (p i) (p' i),fun σ G H Q s rr k=>?_⟩
 refine q σ G H _ s rr fun x G1 H1 s1 hx=>q' σ G1 H1 _ s1.s (rr.mono s1.g) fun y G2 H2 s2 hy=>?_
 exact h G2 H2 x y Q s2.s (hx.mono s2.g) hy (k.step (s1.trans s2))
theorem jj {i j:Int}(ha:Ev F a ρ (ti i))(hb:Ev F b ρ (ti j)):Ev F (.BinOp a .Add b pos) ρ (ti (i+j)):=pQ (fun _=>LC) ha hb fun G H x y Q s hx hy k=>⟨i,j,bf hx,bf hy,k.sc s rfl⟩
theorem Yb {i j:Int}(ha:Ev F a ρ (ti i))(hb:Ev F b ρ (ti j)):Ev F (.BinOp a .Sub b pos) ρ (ti (i-j)):=pQ (fun _=>XU) ha hb fun G H x y Q s hx hy k=>⟨i,j,bf hx,bf hy,k.sc s rfl⟩
theorem h9 {i j:Int}(ha:Ev F a ρ (ti i))(hb:Ev F b ρ (ti j))(hc:M1 i j):Ev F (.BinOp a .Mult b pos) ρ (ti (i*j)):=pQ (fun _=>V7) ha hb fun G H x y Q s hx hy k=>⟨i,j,bf hx,bf hy,hc,k.sc s rfl⟩
theorem jZ {i j:Int}(ha:Ev F a ρ (ti i))(hb:Ev F b ρ (ti j))(hc:sU i j):Ev F (.BinOp a .FloorDiv b pos) ρ (ti (i / j)):=pQ (fun _=>U0) ha hb fun G H x y Q s hx hy k=>⟨i,j,bf hx,bf hy,hc,k.sc s rfl⟩
theorem eU {i j:Int}(ha:Ev F a ρ (ti i))(hb:Ev F b ρ (ti j))(hc : 0<j):Ev F (.BinOp a .Mod b pos) ρ (ti (i % j)):=pQ (fun _=>XW) ha hb fun G H x y Q s hx hy k=>⟨i,j,bf hx,bf hy,hc,k.sc s rfl⟩
theorem vY {xs ys:List Dv}(ha:Ev F a ρ ta)(hb:Ev F b ρ tb')(ea:er ta=.lst xs)(eb:er tb'=.lst ys)(hz:xs.length+ys.length<=sizeLine):Ev F (.BinOp a .Add b pos) ρ (.ow ((xs++ys).map .fz)) :=
 pQ (r:=CD F.K) (fun i=>F.hK i ▸ KC) ha hb fun G H x y Q s hx hy k=>by
  rw [ea] at hx
  rw [eb] at hy
  obtain ⟨l,vs,rfl,h1,h2⟩:=hx
  obtain ⟨l',ws,rfl,h3,h4⟩:=hy
  refine ⟨l,l',vs,ws,rfl,rfl,s.seq h1,s.seq h3,by rw [<- h2.length,<- h4.length];exact hz,fun p hp=>?_⟩
  refine k.lst s ?_ hp
  rw [List.map_append]
  exact h2.gW.append h4.gW
theorem vZ {op:CmpOp}{r:R2}{c:Bool}(ho:∀ i,cV (F.cx i) (compareOp op) r)(ha:Ev F a ρ ta)(hb:Ev F b ρ tb')(h:∀ G H x y (Q:VK),ai G H->Hv F.K G (er ta) x->Hv F.K G (er tb') y->Q (.bl c) H->r x y H Q)(hm:behindInMarks op b=false):Ev F (.Compare a [op] [b] pos) ρ (tb c):=by
 obtain ⟨τ,p,q⟩:=ha.use
 obtain ⟨bK,p',q'⟩:=hb.use
 refine ⟨iF r τ bK,fun i=>VX (ho i) (p i) (p' i) hm,fun σ G H Q s rr k=>?_⟩
 refine q σ G H _ s rr fun x G1 H1 s1 hx=>q' σ G1 H1 _ s1.s (rr.mono s1.g) fun y G2 H2 s2 hy=>?_
 exact h G2 H2 x y Q s2.s (hx.mono s2.g) hy ((k.step (s1.trans s2)).sc s2.s rfl)
theorem j4 {op:CmpOp}{r:R2}{c:Bool}(ho:∀ i,cV (F.cx i) (compareOp op) r)(ha:Ev F a ρ ta)(hb:Ev F b ρ tb')(h:∀ G H x y (Q:VK),ai G H->Hv F.K G (er ta) x->Hv F.K G (er tb') y->Q (.bl c) H->r x y H Q)(hm:behindInMarks op b=false):Et F (.Compare a [op] [b] pos) ρ c:=by
 obtain ⟨τ,p,q⟩:=ha.use
 obtain ⟨bK,p',q'⟩:=hb.use
 refine ⟨MX (iF r τ bK),fun i=>VY (ho i) (p i) (p' i) hm,fun σ G H Q s rr k=>?_⟩
 refine q σ G H _ s rr fun x G1 H1 s1 hx=>q' σ G1 H1 _ s1.s (rr.mono s1.g) fun y G2 H2 s2 hy=>?_
 exact h G2 H2 x y _ s2.s (hx.mono s2.g) hy ⟨c,rfl,k G2 H2 (s1.trans s2)⟩
theorem kI {i j:Int}(ha:Ev F a ρ (ti i))(hb:Ev F b ρ (ti j)):Et F (.Compare a [.Lt] [b] pos) ρ (decide (i<j)):=j4 (fun _=>MT) ha hb (fun G H x y Q s hx hy k=>⟨i,j,bf hx,bf hy,k⟩) (iW _)
theorem mh {i j:Int}(ha:Ev F a ρ (ti i))(hb:Ev F b ρ (ti j)):Et F (.Compare a [.Gt] [b] pos) ρ (decide (j<i)):=j4 (fun _=>MU) ha hb (fun G H x y Q s hx hy k=>⟨i,j,bf hx,bf hy,k⟩) (iW _)
theorem Zf {i j:Int}(ha:Ev F a ρ (ti i))(hb:Ev F b ρ (ti j)):Et F (.Compare a [.GtE] [b] pos) ρ (decide (j<=i)):=j4 (fun _=>MV) ha hb (fun G H x y Q s hx hy k=>⟨i,j,bf hx,bf hy,k⟩) (iW _)
theorem jq {i j:Int}(ha:Ev F a ρ (ti i))(hb:Ev F b ρ (ti j)):Et F (.Compare a [.Eq] [b] pos) ρ (decide (i=j)):=j4 (fun _=>MS) ha hb (fun G H x y Q s hx hy k=>by
 rw [bf hx,bf hy];exact ⟨rfl,by simpa using k⟩) (iW _)
theorem wt {i j:Int}(ha:Ev F a ρ (ti i))(hb:Ev F b ρ (ti j)):Et F (.Compare a [.NotEq] [b] pos) ρ (!decide (i=j)):=j4 (fun _=>Za) ha hb (fun G H x y Q s hx hy k=>by
 rw [bf hx,bf hy];exact ⟨rfl,by simpa using k⟩) (iW _)
theorem CF {i j:Int}(ha:Ev F a ρ (ti i))(hb:Ev F b ρ (ti j)):Ev F (.Compare a [.Lt] [b] pos) ρ (tb (decide (i<j))):=vZ (fun _=>MT) ha hb (fun G H x y Q s hx hy k=>⟨i,j,bf hx,bf hy,k⟩) (iW _)
theorem Zg {i j:Int}(ha:Ev F a ρ (ti i))(hb:Ev F b ρ (ti j)):Ev F (.Compare a [.Gt] [b] pos) ρ (tb (decide (j<i))):=vZ (fun _=>MU) ha hb (fun G H x y Q s hx hy k=>⟨i,j,bf hx,bf hy,k⟩) (iW _)
theorem Zh {i j:Int}(ha:Ev F a ρ (ti i))(hb:Ev F b ρ (ti j)):Ev F (.Compare a [.GtE] [b] pos) ρ (tb (decide (j<=i))):=vZ (fun _=>MV) ha hb (fun G H x y Q s hx hy k=>⟨i,j,bf hx,bf hy,k⟩) (iW _)
def BO (d e:Dv):Prop:=(∃ xs ys,d=.lst xs/\e=.lst ys)\/∃ xs ys,d=.tup xs/\e=.tup ys
theorem BP (ha:Ev F a ρ ta)(hb:Ev F b ρ tb')(hk:BO (er ta) (er tb'))(hd:dI (er ta)<=50):Et F (.Compare a [.Eq] [b] pos) ρ (cN (er ta) (er tb')) :=
 j4 (r:=tJ F.K false) (fun i=>F.hK i ▸ LL (F.hr i).units) ha hb (fun G H x y Q s hx hy k=>⟨_,_,hk,hx.mono s,hy.mono s,hd,k⟩) (iW _)
theorem pR (ha:Ev F a ρ ta)(hb:Ev F b ρ tb')(hk:BO (er ta) (er tb'))(hd:dI (er ta)<=50):Et F (.Compare a [.NotEq] [b] pos) ρ (!cN (er ta) (er tb')) :=
 j4 (r:=tJ F.K true) (fun i=>F.hK i ▸ X2 (F.hr i).units) ha hb (fun G H x y Q s hx hy k=>⟨_,_,hk,hx.mono s,hy.mono s,hd,k⟩) (iW _)
theorem LN (ha:Ev F a ρ ta)(hb:Ev F b ρ tb')(hk:BO (er ta) (er tb'))(hd:dI (er ta)<=50):Ev F (.Compare a [.Eq] [b] pos) ρ (tb (cN (er ta) (er tb'))) :=
 vZ (r:=tJ F.K false) (fun i=>F.hK i ▸ LL (F.hr i).units) ha hb (fun G H x y Q s hx hy k=>⟨_,_,hk,hx.mono s,hy.mono s,hd,k⟩) (iW _)
theorem rT {K:PySem.W.Frag}{G:Hp}:∀ {ns:List Int} {vs:List V},aO K G (ns.map di) vs->vs=ns.map V.int
 |[],_,h=>h
 |_::_,_,⟨x,r,h1,h2,h3⟩=>by subst h1;rw [bf h2,rT h3];rfl
theorem rU {K:PySem.W.Frag}{G:Hp}:∀ {ns:List Int},aO K G (ns.map di) (ns.map V.int)
 |[] => rfl
 |_::_=>⟨_,_,rfl,⟨rfl,rfl⟩,rU⟩
theorem JC (n:Int):∀ ns:List Int,xB (.int n) (ns.map V.int)=ns.any fun m=>m==n
 |[] => rfl
 |m::ms=>by
  show (fF (.int m) (.int n) || xB (.int n) (ms.map V.int))=_
  rw [JC n ms];rfl
theorem Je (ns:List Int):(ns.map V.int).all eX=true:=by rw [List.all_map];exact List.all_eq_true.mpr fun _ _=>rfl
theorem Sx (n:Int)(ns:List Int):(ns.any fun m=>m==n)=ns.contains n:=by
 induction ns with
 |nil=>rfl
 |cons m ms ih=>rw [List.any_cons,ih,List.contains_cons];congr 1;exact Bool.beq_comm
theorem LO {n:Int}{ns:List Int}{neg:Bool}(eb:er tb'=dis ns){G H:Hp}{x y:V}{Q:VK}(s:ai G H)(hx:Hv F.K G (er (ti n)) x)(hy:Hv F.K G (er tb') y)(k:Q (.bl (if neg then !ns.contains n else ns.contains n)) H):t5 F.K neg x y H Q:=by
 rw [eb] at hy
 obtain ⟨l,vs,rfl,h1,h2⟩:=hy
 have:=rT h2
 subst this
 rw [bf hx]
 refine ⟨l,_,rfl,.inl (s.seq h1),rfl,Je ns,?_⟩
 rw [JC,Sx]
 exact k
theorem M6 {n:Int}{ns:List Int}(ha:Ev F a ρ (ti n))(hb:Ev F b ρ tb')(eb:er tb'=dis ns)(hm:behindInMarks .In b=false):Et F (.Compare a [.In] [b] pos) ρ (ns.contains n) :=
 j4 (r:=t5 F.K false) (fun i=>F.hK i ▸ Ud) ha hb (fun G H x y Q s hx hy k=>LO eb s hx hy k) hm
theorem AD {n:Int}{ns:List Int}(ha:Ev F a ρ (ti n))(hb:Ev F b ρ tb')(eb:er tb'=dis ns)(hm:behindInMarks .NotIn b=false):Et F (.Compare a [.NotIn] [b] pos) ρ (!ns.contains n) :=
 j4 (r:=t5 F.K true) (fun i=>F.hK i ▸ Sv) ha hb (fun G H x y Q s hx hy k=>LO eb s hx hy k) hm
theorem j5 {c:Bool}(h:Ev F e ρ (tb c))(he:∀ i whole,isTrue e (F.cx i).env whole=(do let v <- whole;standAt e.pos;holding [v] (truthy v)):=by intro _ _;rfl):Et F e ρ c:=by
 obtain ⟨τ,p,q⟩:=h
 exact ⟨tB τ,fun i=>Lv (p i) (he i),fun σ G H Q s r k=>q σ G H _ s r fun v G' H' fq st o w=>⟨c,bf o.2,k G' H' st⟩⟩
def Ew (F:aY ι)(e:Expr)(ρ:En)(b:Bool):Prop:=∃ τ:TT,(∀ i,PW (F.cx i) e τ)/\∀ σ G H Q,ai G H->cj F.K G ρ σ->(∀ G' H',Step G H G' H'->Q b H')->τ σ H Q
theorem Ew.et {p:Bool}(h:Ew F e ρ p):Et F e ρ p:=let ⟨τ,a,b⟩:=h;⟨τ,fun i=>(a i).pt,b⟩
theorem JD {X:Cx}:PW X e (fun _ _ _=>False):=fun _ _ _ _ _ _ _ h=>h.elim
theorem KH {p:Bool}(h:Et F a ρ p):Ew F (.BoolOp .And [a] pos) ρ p:=let ⟨τ,x,y⟩:=h;⟨τ,fun i=>VV (x i),y⟩
theorem lV {p:Bool}(h:Et F a ρ p):Ew F (.BoolOp .Or [a] pos) ρ p:=let ⟨τ,x,y⟩:=h;⟨τ,fun i=>XO (x i),y⟩
theorem LQ {p q:Bool}{rest:List Expr}(h:Et F a ρ p)(h2:p=true->Ew F (.BoolOp .And (b::rest) pos) ρ q):Ew F (.BoolOp .And (a::b::rest) pos) ρ (p&&q):=by
 obtain ⟨τ,x,y⟩:=h
 cases p with
 |false=>exact ⟨De τ _,fun i=>Lw (x i) JD,fun σ G H Q s r k=>y σ G H _ s r fun G' H' st=>kg (k G' H' st)⟩
 |true =>
  obtain ⟨bK,x',y'⟩:=h2 rfl
  exact ⟨De τ bK,fun i=>Lw (x i) (x' i),fun σ G H Q s r k=>y σ G H _ s r fun G1 H1 s1=>i6 (y' σ G1 H1 _ s1.s (r.mono s1.g) fun G2 H2 s2=>k G2 H2 (s1.trans s2))⟩
theorem mj {p q:Bool}{rest:List Expr}(h:Et F a ρ p)(h2:p=false->Ew F (.BoolOp .Or (b::rest) pos) ρ q):Ew F (.BoolOp .Or (a::b::rest) pos) ρ (p || q):=by
 obtain ⟨τ,x,y⟩:=h
 cases p with
 |true=>exact ⟨D1 τ _,fun i=>MO (x i) JD,fun σ G H Q s r k=>y σ G H _ s r fun G' H' st=>i6 (k G' H' st)⟩
 |false =>
  obtain ⟨bK,x',y'⟩:=h2 rfl
  exact ⟨D1 τ bK,fun i=>MO (x i) (x' i),fun σ G H Q s r k=>y σ G H _ s r fun G1 H1 s1=>kg (y' σ G1 H1 _ s1.s (r.mono s1.g) fun G2 H2 s2=>k G2 H2 (s1.trans s2))⟩
theorem LR {p:Bool}(h:Et F a ρ p):Et F (.UnaryOp .Not a pos) ρ (!p):=by
 obtain ⟨τ,x,y⟩:=h
 exact ⟨NU τ,fun i=>XQ (x i),fun σ G H Q s r k=>y σ G H _ s r k⟩
theorem rV {X:Cx}:PE X e (fun _ _ _=>False):=fun _ _ _ _ _ _ h=>h.elim
theorem v5 {op:BoolOp}{t:Tr}(h:Ev F a ρ t):Ev F (.BoolOp op [a] pos) ρ t:=let ⟨τ,x,y⟩:=h;⟨τ,fun i=>XR (x i),y⟩
theorem LU {p q:Bool}{rest:List Expr}(h:Ev F a ρ (tb p))(h2:p=true->Ev F (.BoolOp .And (b::rest) pos) ρ (tb q)):Ev F (.BoolOp .And (a::b::rest) pos) ρ (tb (p&&q)):=by
 obtain ⟨τ,x,y⟩:=h.use
 cases p with
 |false=>exact ⟨Cy τ _,fun i=>Lx (x i) rV,fun σ G H Q s r k=>y σ G H _ s r fun v G' H' st hv=>⟨false,bf hv,kg ((k.step st).sc st.s rfl)⟩⟩
 |true =>
  obtain ⟨bK,x',y'⟩:=h2 rfl
  exact ⟨Cy τ bK,fun i=>Lx (x i) (x' i),fun σ G H Q s r k=>y σ G H _ s r fun v G1 H1 s1 hv=>⟨true,bf hv,i6 (y' σ G1 H1 _ s1.s (r.mono s1.g) (k.step s1))⟩⟩
theorem M7 {p q:Bool}{rest:List Expr}(h:Ev F a ρ (tb p))(h2:p=false->Ev F (.BoolOp .Or (b::rest) pos) ρ (tb q)):Ev F (.BoolOp .Or (a::b::rest) pos) ρ (tb (p || q)):=by
 obtain ⟨τ,x,y⟩:=h.use
 cases p with
 |true=>exact ⟨Df τ _,fun i=>MQ (x i) rV,fun σ G H Q s r k=>y σ G H _ s r fun v G' H' st hv=>⟨true,bf hv,i6 ((k.step st).sc st.s rfl)⟩⟩
 |false =>
  obtain ⟨bK,x',y'⟩:=h2 rfl
  exact ⟨Df τ bK,fun i=>MQ (x i) (x' i),fun σ G H Q s r k=>y σ G H _ s r fun v G1 H1 s1 hv=>⟨false,bf hv,kg (y' σ G1 H1 _ s1.s (r.mono s1.g) (k.step s1))⟩⟩
theorem LV {p:Bool}(h:Ev F a ρ (tb p)):Ev F (.UnaryOp .Not a pos) ρ (tb (!p)):=by
 obtain ⟨τ,x,y⟩:=h.use
 exact ⟨MP τ,fun i=>XS (x i),fun σ G H Q s r k=>y σ G H _ s r fun v G' H' st hv=>⟨p,bf hv,(k.step st).sc st.s rfl⟩⟩
theorem M8 {p:Bool}(hc:Et F c ρ p)(h1:p=true->Ev F a ρ t)(h2:p=false->Ev F b ρ t):Ev F (.IfExp c a b pos) ρ t:=by
 obtain ⟨τ,x,y⟩:=hc
 cases p with
 |true =>
  obtain ⟨bK,x',y'⟩:=h1 rfl
  exact ⟨xx τ bK _,fun i=>Ay (x i) (x' i) rV,fun σ G H Q s r k=>y σ G H _ s r fun G1 H1 s1=>i6 (y' σ G1 H1 _ s1.s (r.mono s1.g) (k.step s1))⟩
 |false =>
  obtain ⟨bK,x',y'⟩:=h2 rfl
  exact ⟨xx τ _ bK,fun i=>Ay (x i) rV (x' i),fun σ G H Q s r k=>y σ G H _ s r fun G1 H1 s1=>kg (y' σ G1 H1 _ s1.s (r.mono s1.g) (k.step s1))⟩
theorem df (h:eG F es ρ ts)(hz:ts.length<=sizeLine):Ev F (.List es pos) ρ (.ow ts):=by
 obtain ⟨τ,x,y⟩:=h
 refine ⟨NX τ,fun i=>sJ (x i),fun σ G H Q s r k=>y σ G H _ s r fun vs G1 H1 fq s1 o w=>⟨by rw [<- o.length];exact hz,fun p hp=>?_⟩⟩
 have np:p ∉ fq:=fun z=>by
  obtain ⟨u,hu⟩:=o.there p z
  rw [hp] at hu;cases hu
 exact k (.ref p) G1 _ (p::fq) (s1.trans (.gO s1.s hp)) ⟨p,vs,fq,rfl,bE,o.mono (ai.refl _) (ai.new hp),rfl⟩
  ⟨fun a ha=>(List.mem_cons.mp ha).elim (fun z=>by rw [z];exact s1.h.free hp) (w.n a),fun a ha=>(List.mem_cons.mp ha).elim (fun z=>by rw [z];exact s1.s.free hp) (w.g a),List.nodup_cons.mpr ⟨np,w.d⟩⟩
theorem BQ {x1}(h:eG F es ρ ts)(hz:ts.length<=sizeLine):Ev F (.Tuple es x1 pos) ρ (.tp ts):=by
 obtain ⟨τ,x,y⟩:=h
 refine ⟨nI τ,fun i=>vW (x i),fun σ G H Q s r k=>y σ G H _ s r fun vs G1 H1 fq s1 o w=>⟨by rw [<- o.length];exact hz,fun p hp=>?_⟩⟩
 have np:p ∉ fq:=fun z=>by
  obtain ⟨u,hu⟩:=o.there p z
  rw [hp] at hu;cases hu
 exact k (.ref p) G1 _ (p::fq) (s1.trans (.gO s1.s hp)) ⟨p,vs,fq,rfl,bE,o.mono (ai.refl _) (ai.new hp),rfl⟩
  ⟨fun a ha=>(List.mem_cons.mp ha).elim (fun z=>by rw [z];exact s1.h.free hp) (w.n a),fun a ha=>(List.mem_cons.mp ha).elim (fun z=>by rw [z];exact s1.s.free hp) (w.g a),List.nodup_cons.mpr ⟨np,w.d⟩⟩
theorem vG {x1}{dd:List Dv}(h:eG F es ρ ts)(ed:cE ts=dd)(hz:ts.length<=sizeLine):Ev F (.Tuple es x1 pos) ρ (.fz (.tup dd)):=ed ▸ (BQ h hz).fz
theorem aO.get {K:PySem.W.Frag}{G:Hp}:∀ {ds:List Dv} {vs:List V} {j:Nat} {d:Dv},aO K G ds vs->ds[j]?=some d->∃ v,vs[j]?=some v/\Hv K G d v
 |_::_,_,0,_,⟨x,r,h1,h2,h3⟩,h=>by cases h;subst h1;exact ⟨x,rfl,h2⟩
 |_::_,_,j+1,d,⟨x,r,h1,h2,h3⟩,h=>by
  subst h1
  obtain ⟨v,q1,q2⟩:=aO.get (j:=j) h3 h
  exact ⟨v,q1,q2⟩
theorem aO.at {K:PySem.W.Frag}{G:Hp}{ds:List Dv}{vs:List V}{k:Int}{d:Dv}(h:aO K G ds vs)(hk:bq ds k=some d):∃ v,bq vs k=some v/\Hv K G d v:=by
 unfold bq at hk ⊢
 rw [<- h.length]
 cases q:gv ds.length k with
 |none=>rw [q] at hk;cases hk
 |some j=>rw [q] at hk;exact h.get hk
theorem dz {xs:List Dv}{k:Int}{d:Dv}(ha:Ev F a ρ ta)(hb:Ev F b ρ (ti k))(ea:er ta=.lst xs)(hk:bq xs k=some d)(hs:Bc b:=by exact fun _ _=>rfl):Ev F (.Subscript a b pos) ρ (.fz d):=by
 obtain ⟨τ,p,q⟩:=ha.use
 obtain ⟨bK,p',q'⟩:=hb.use
 refine ⟨iF (Ds F.K) τ bK,fun i=>sT (JB (F.hK i)) (p i) (p' i) hs,fun σ G H Q s rr k=>?_⟩
 refine q σ G H _ s rr fun x G1 H1 s1 hx=>q' σ G1 H1 _ s1.s (rr.mono s1.g) fun y G2 H2 s2 hy=>?_
 rw [ea] at hx
 obtain ⟨l,vs,rfl,h1,h2⟩:=hx
 obtain ⟨v,h3,h4⟩:=h2.at hk
 exact ⟨l,vs,_,v,rfl,bf hy,(s2.g.trans s2.s).seq h1,h3,(k.step (s1.trans s2)).dat s2.s (h4.mono s2.g)⟩
theorem aV {xs:List Dv}{k:Int}{d:Dv}(ha:Ev F a ρ ta)(hb:Ev F b ρ (ti k))(ea:er ta=.tup xs)(hk:bq xs k=some d)(hs:Bc b:=by exact fun _ _=>rfl):Ev F (.Subscript a b pos) ρ (.fz d):=by
 obtain ⟨τ,p,q⟩:=ha.use
 obtain ⟨bK,p',q'⟩:=hb.use
 refine ⟨iF (tH F.K) τ bK,fun i=>sT (Wa (F.hK i)) (p i) (p' i) hs,fun σ G H Q s rr k=>?_⟩
 refine q σ G H _ s rr fun x G1 H1 s1 hx=>q' σ G1 H1 _ s1.s (rr.mono s1.g) fun y G2 H2 s2 hy=>?_
 rw [ea] at hx
 obtain ⟨l,vs,rfl,h1,h2⟩:=hx
 obtain ⟨v,h3,h4⟩:=h2.at hk
 exact ⟨l,vs,_,v,rfl,bf hy,(s2.g.trans s2.s).tup h1,h3,(k.step (s1.trans s2)).dat s2.s (h4.mono s2.g)⟩
def cutD {α:Type}(xs:List α)(lo hi:Option Int):List α:=(xs.drop (HT.eE xs.length 0 lo)).take (HT.eE xs.length xs.length hi-HT.eE xs.length 0 lo)
theorem aO.drop {K:PySem.W.Frag}{G:Hp}:∀ {ds:List Dv} {vs:List V} (n:Nat),aO K G ds vs->aO K G (ds.drop n) (vs.drop n)
 |ds,vs,0,h=>h
 |[],_,n+1,h=>by rw [show _=[] from h];exact rfl
 |_::_,_,n+1,⟨x,r,h1,h2,h3⟩=>by subst h1;exact aO.drop n h3
theorem aO.take {K:PySem.W.Frag}{G:Hp}:∀ {ds:List Dv} {vs:List V} (n:Nat),aO K G ds vs->aO K G (ds.take n) (vs.take n)
 |ds,vs,0,h=>by simp only [List.take_zero];exact rfl
 |[],_,n+1,h=>by rw [show _=[] from h];exact rfl
 |_::_,_,n+1,⟨x,r,h1,h2,h3⟩=>by subst h1;exact ⟨x,r.take n,rfl,h2,aO.take n h3⟩
theorem aO.cut {K:PySem.W.Frag}{G:Hp}{ds:List Dv}{vs:List V}(h:aO K G ds vs)(lo hi:Option Int):aO K G (cutD ds lo hi) (qw vs lo hi):=by
 unfold cutD qw
 rw [h.length]
 exact (h.drop _).take _
def Eo (F:aY ι)(e:Option Expr)(ρ:En)(o:Option Int):Prop:=∃ τ:TO,(∀ i,PO (F.cx i) e τ)/\∀ σ G H Q,ai G H->cj F.K G ρ σ->(∀ G' H',Step G H G' H'->Q o H')->τ σ H Q
theorem KI:Eo F none ρ none:=⟨Kx,fun _=>V0,fun σ G H Q s r k=>k G H (.refl s)⟩
theorem vH {n:Int}(h:Ev F e ρ (ti n)):Eo F (some e) ρ (some n):=by
 obtain ⟨τ,x,y⟩:=h.use
 exact ⟨MZ τ,fun i=>V1 (x i),fun σ G H Q s r k=>y σ G H _ s r fun v G' H' st hv=>⟨n,bf hv,k G' H' st⟩⟩
theorem AF {lo hi:Option Expr}{l u:Option Int}{xs:List Dv}{p2:Pos}(ha:Ev F a ρ ta)(ea:er ta=.lst xs)(hl:Eo F lo ρ l)(hu:Eo F hi ρ u):Ev F (.Subscript a (.Slice lo hi none p2) pos) ρ (.ow ((cutD xs l u).map .fz)):=by
 obtain ⟨τ,p,q⟩:=ha.use
 obtain ⟨D8,p1,q1⟩:=hl
 obtain ⟨D9,xH,q2⟩:=hu
 refine ⟨Pu (NY F.K) τ D8 D9,fun i=>UW (F.hK i ▸ V3) (p i) (p1 i) (xH i),fun σ G H Q s rr k=>?_⟩
 refine q σ G H _ s rr fun x G1 H1 s1 hx=>q1 σ G1 H1 _ s1.s (rr.mono s1.g) fun G2 H2 s2=>q2 σ G2 H2 _ s2.s (rr.mono (s1.trans s2).g) fun G3 H3 s3=>?_
 rw [ea] at hx
 obtain ⟨b,vs,rfl,h1,h2⟩:=hx
 have st:=s2.trans s3
 exact ⟨b,vs,rfl,(st.g.trans st.s).seq h1,fun p hp=>(k.step (s1.trans st)).lst st.s ((h2.mono st.g).cut l u).gW hp⟩
theorem vt {id:String}{x:Str}{r:List V->Hp->VK->Prop}(hc:∀ i,fB (F.cx i) (.builtin id) r)(hm:F.mg x=none)(hv:bootBuiltins x=some (.builtin id))(ha:eG F (e::es) ρ ts)(h:∀ G H xs Q,ai G H->aO F.K G (cE ts) xs->Kv F.K G H t Q->r xs H Q){p':Pos}(hg:∀ i,Gl (F.cx i) x:=by intro _;rfl)(hn:x ≠ "__name__" := by decide)(hdb:(x==("__debug__" : Str))=false:=by decide)(he:∀ i,starEach (e::es) (F.cx i).env=(false,eval e (F.cx i).env)::starEach es (F.cx i).env:=by intro _;rfl)(bW:∀ i,(backTo pos (starEach es (F.cx i).env)).any (·.1)=false:=by intro _;rfl):Ev F (.Call (.Name x p') (e::es) [] pos) ρ t:=by
 obtain ⟨τ,y,z⟩:=ha.use
 refine ⟨jy r τ,fun i=>d8 (hc i) (hg i) ((F.hm i).symm ▸ hm) hv (y i) hn hdb (he i) (bW i),fun σ G H Q s rr k=>z σ G H _ s rr fun vs G1 H1 s1 hx=>?_⟩
 exact h G1 H1 vs Q s1.s hx (k.step s1)
theorem JE {T:String}{x:Str}{r:List V->Hp->VK->Prop}(hc:∀ i,fB (F.cx i) (.type T) r)(hm:F.mg x=none)(hv:bootBuiltins x=some (.type T))(ha:eG F (e::es) ρ ts)(h:∀ G H xs Q,ai G H->aO F.K G (cE ts) xs->Kv F.K G H t Q->r xs H Q){p':Pos}(hg:∀ i,Gl (F.cx i) x:=by intro _;rfl)(hn:x ≠ "__name__" := by decide)(hdb:(x==("__debug__" : Str))=false:=by decide)(he:∀ i,starEach (e::es) (F.cx i).env=(false,eval e (F.cx i).env)::starEach es (F.cx i).env:=by intro _;rfl)(bW:∀ i,(backTo pos (starEach es (F.cx i).env)).any (·.1)=false:=by intro _;rfl):Ev F (.Call (.Name x p') (e::es) [] pos) ρ t:=by
 obtain ⟨τ,y,z⟩:=ha.use
 refine ⟨jy r τ,fun i=>vg (hc i) (hg i) ((F.hm i).symm ▸ hm) hv (y i) hn hdb (he i) (bW i),fun σ G H Q s rr k=>z σ G H _ s rr fun vs G1 H1 s1 hx=>?_⟩
 exact h G1 H1 vs Q s1.s hx (k.step s1)
theorem kh {K:PySem.W.Frag}{G:Hp}{d:Dv}{xs:List V}(h:aO K G [d] xs):∃ x,xs=[x]/\Hv K G d x:=by
 obtain ⟨x,r,h1,h2,h3⟩:=h
 exact ⟨x,by rw [h1,show r=[] from h3],h2⟩
theorem Z0 {K:PySem.W.Frag}{G:Hp}{d d':Dv}{xs:List V}(h:aO K G [d,d'] xs):∃ x y,xs=[x,y]/\Hv K G d x/\Hv K G d' y:=by
 obtain ⟨x,r,h1,h2,h3⟩:=h
 obtain ⟨y,rfl,h4⟩:=kh h3
 exact ⟨x,y,h1,h2,h4⟩
theorem cu {xs:List Dv}(hm:F.mg "len" = none)(ha:Ev F e ρ ta)(ea:er ta=.lst xs\/er ta=.tup xs){p':Pos}(hg:∀ i,Gl (F.cx i) "len" := by intro _;rfl)(hs:∀ i,starEach [e] (F.cx i).env=[(false,eval e (F.cx i).env)]:=by intro _;rfl):Ev F (.Call (.Name "len" p') [e] [] pos) ρ (ti xs.length) :=
 vt (r:=fun xs H Q=>∃ p ys,xs=[.ref p]/\(aH F.K H p ys\/cM F.K H p ys)/\Q (.int ys.length) H) (fun i=>Ui (F.hK i)) hm BM (af ha aq hs) (fun G H vs Q s hx k=>by
  obtain ⟨x,rfl,gX⟩:=kh hx
  replace hx:=gX
  rcases ea with ea | ea
  ·rw [ea] at hx
   obtain ⟨l,ys,rfl,h1,h2⟩:=hx
   exact ⟨l,ys,rfl,.inl (s.seq h1),by rw [<- h2.length];exact k.sc s rfl⟩
  ·rw [ea] at hx
   obtain ⟨l,ys,rfl,h1,h2⟩:=hx
   exact ⟨l,ys,rfl,.inr (s.tup h1),by rw [<- h2.length];exact k.sc s rfl⟩) hg (by decide) (by decide) hs (fun _=>rfl)
theorem nh {xs:List Dv}(hm:F.mg "list" = none)(ha:Ev F e ρ ta)(ea:er ta=.lst xs\/er ta=.tup xs){p':Pos}(hg:∀ i,Gl (F.cx i) "list" := by intro _;rfl)(hs:∀ i,starEach [e] (F.cx i).env=[(false,eval e (F.cx i).env)]:=by intro _;rfl):Ev F (.Call (.Name "list" p') [e] [] pos) ρ (.ow (xs.map .fz)) :=
 JE (r:=fun xs H Q=>∃ p ys,xs=[.ref p]/\(aH F.K H p ys\/cM F.K H p ys)/\∀ l,H l=none->Q (.ref l) (upd H l (.lst ys))) (fun i=>F.hK i ▸ Il) hm Bf (af ha aq hs) (fun G H vs Q s hx k=>by
  obtain ⟨x,rfl,gX⟩:=kh hx
  replace hx:=gX
  rcases ea with ea | ea
  ·rw [ea] at hx
   obtain ⟨l,ys,rfl,h1,h2⟩:=hx
   exact ⟨l,ys,rfl,.inl (s.seq h1),fun p hp=>k.lst s h2.gW hp⟩
  ·rw [ea] at hx
   obtain ⟨l,ys,rfl,h1,h2⟩:=hx
   exact ⟨l,ys,rfl,.inr (s.tup h1),fun p hp=>k.lst s h2.gW hp⟩) hg (by decide) (by decide) hs (fun _=>rfl)
theorem LW {n:Int}(hm:F.mg "abs" = none)(ha:Ev F e ρ (ti n)){p':Pos}(hg:∀ i,Gl (F.cx i) "abs" := by intro _;rfl)(hs:∀ i,starEach [e] (F.cx i).env=[(false,eval e (F.cx i).env)]:=by intro _;rfl):Ev F (.Call (.Name "abs" p') [e] [] pos) ρ (ti (if n<0 then -n else n)) :=
 vt (fun i=>UU) hm X3 (af ha aq hs) (fun G H vs Q s hx k=>by
  obtain ⟨x,rfl,gX⟩:=kh hx
  replace hx:=gX
  exact ⟨n,by rw [bf hx],k.sc s rfl⟩) hg (by decide) (by decide) hs (fun _=>rfl)
def PL:Dv->Value
 | .fl .aS=>.type "NoneType"
 | .fl (.bl _)=>.type "bool"
 | .fl (.int _)=>.type "int"
 | .fl (.str _)=>.type "str"
 | .fl _=>.none
 | .lst _=>.type "list"
 | .tup _=>.type "tuple"
def NZ (K:PySem.W.Frag)(d:Dv)(n:String)(b:Bool):List V->Hp->VK->Prop:=fun xs H Q=>∃ x,xs=[x,.ty n]/\Hv K H d x/\PySem.W.kitOne K (PL d) (.type n)=some b/\Q (.bl b) H
theorem U6 {X:Cx}{d:Dv}{n:String}{b:Bool}:fB X (.builtin "isinstance") (NZ X.K d n b):=by
 intro pins s σ H xs us Q I r h
 obtain ⟨x,rfl,hx,hb,q⟩:=h
 cases r with
 |cons r1 rr=>cases rr with
  |cons r2 rr =>
   cases rr
   cases (show _=Value.type n from r2)
   have fin:∀ tk,EP X pins σ Q (.bool b) { s with toks:=tk }:=fun tk=>⟨.bl b,H,I.tok tk,rfl,q⟩
   cases d with
   |fl v =>
    obtain ⟨rfl,f⟩:=hx
    cases x with
    |aS=>exact vf I r1 .aS hb fin
    |bl y=>exact vf I r1 (.bl y) hb fin
    |int y=>exact vf I r1 (.int y) hb fin
    |str y=>exact vf I r1 (.str y) hb fin
    |jc y=>cases f
    |nP y=>cases f
    |ref y=>cases f
    |ty y=>cases f
   |lst ds =>
    obtain ⟨a,xs,rfl,h1,_⟩:=hx
    cases r1
    obtain ⟨its,_,⟨o,n,h2,h3,_⟩,_⟩:=I.list h1
    exact PySem.W.kia_one PySem.W.kitx_list I.cU ⟨o,h2,h3⟩ hb (fun z=>nomatch z) fin
   |tup ds =>
    obtain ⟨a,xs,rfl,h1,_⟩:=hx
    cases r1
    obtain ⟨its,_,⟨o,h2,h3,_⟩,_⟩:=I.tuple h1
    exact PySem.W.kia_one PySem.W.kitx_tuple I.cU ⟨o,h2,h3⟩ hb (fun z=>nomatch z) fin
theorem LX {x:Str}{n:String}{bo:Bool}(hm:F.mg "isinstance" = none)(n5:F.mg x=none)(hv:bootBuiltins x=some (.type n))(ha:Ev F e ρ ta)(hk:PySem.W.kitOne F.K (PL (er ta)) (.type n)=some bo){p' p2:Pos}(hg:∀ i,Gl (F.cx i) "isinstance" := by intro _;rfl)(n6:∀ i,Gl (F.cx i) x:=by intro _;rfl)(hn:x ≠ "__name__" := by decide)(hd:(x==("__debug__" : Str))=false:=by decide)(hs:∀ i,starEach [e,.Name x p2] (F.cx i).env=[(false,eval e (F.cx i).env),(false,eval (.Name x p2) (F.cx i).env)]:=by intro _;rfl):Ev F (.Call (.Name "isinstance" p') [e,.Name x p2] [] pos) ρ (tb bo):=by
 obtain ⟨τ,y,z⟩:=ha.use
 refine ⟨jy (NZ F.K (er ta) n bo) (bY τ (bY (tC (.ty n)) cI)),fun i=>d8 (F.hK i ▸ U6) (hg i) ((F.hm i).symm ▸ hm) fZ (aF (y i) (aF (Kr (v:=.ty n) (n6 i) ((F.hm i).symm ▸ n5) hv rfl hn hd) bu rfl) (hs i)) (by decide) (by decide) (hs i) rfl,fun σ G H Q s rr k=>z σ G H _ s rr fun vs G1 H1 s1 hx=>?_⟩
 exact ⟨vs,rfl,hx.mono s1.s,hk,(k.step s1).sc s1.s rfl⟩
def spT (K:PySem.W.Frag)(R:List Dv->Tr->Prop):Sp:=fun vs H Q _=>∃ G ds t,ai G H/\aO K G ds vs/\R ds t/\Kv K G H t Q
theorem aI {k:Nat}{f:Addr}{fd:FuncData}{ps:List Str}{R:List Dv->Tr->Prop}{x:Str}(Fn:Kn F.P F.w F.K F.mg F.base ao k x f fd ps (spT F.K R))(hk:k<=F.room)(ha:eG F (e::es) ρ ts)(hR:R (cE ts) t){p':Pos}(hg:∀ i,Gl (F.cx i) x:=by intro _;rfl)(hdb:(x==("__debug__" : Str))=false:=by decide)(he:∀ i,starEach (e::es) (F.cx i).env=(false,eval e (F.cx i).env)::starEach es (F.cx i).env:=by intro _;rfl)(bW:∀ i,(backTo pos (starEach es (F.cx i).env)).any (·.1)=false:=by intro _;rfl):Ev F (.Call (.Name x p') (e::es) [] pos) ρ t:=by
 obtain ⟨τ,y,z⟩:=ha.use
 refine ⟨kG (spT F.K R) [] E0 τ,fun i=>?_,fun σ G H Q s rr k=>z σ G H _ s rr fun vs G1 H1 s1 hx=>?_⟩
 ·have iK:Kn (F.cx i).prog (F.cx i).w (F.cx i).K (F.cx i).mg (F.cx i).base ao k x f fd ps (spT F.K R):=by
   rw [F.hP i,F.hw i,F.hK i,F.hm i,F.hb i]
   exact Fn
  exact wq iK ((F.hr i).mono hk) (hg i) (y i) hdb (he i) (bW i)
 ·show spT F.K R (vs++[]) H1 Q E0
  rw [List.append_nil]
  exact ⟨G1,_,t,s1.s,hx,hR,k.step s1⟩
end
def aJ (K:PySem.W.Frag)(G H:Hp):En->St->List Addr->Prop
 |[],σ,fp=>σ=[]/\fp=[]
 |none::ρ,σ,fp=>∃ o r,σ=o::r/\aJ K G H ρ r fp
 |some t::ρ,σ,fp=>∃ v r f1 f2,σ=some v::r/\fp=f1++f2/\Ow K G H t v f1/\aJ K G H ρ r f2
theorem aJ.mono {K:PySem.W.Frag}{G G' H H':Hp}(e:ai G G')(e':ai H H'):∀ {ρ:En} {σ:St} {fp:List Addr},aJ K G H ρ σ fp->aJ K G' H' ρ σ fp
 |[],_,_,h=>h
 |none::_,_,_,⟨o,r,h1,h2⟩=>⟨o,r,h1,aJ.mono e e' h2⟩
 |some _::_,_,_,⟨v,r,f1,f2,h1,h2,h3,h4⟩=>⟨v,r,f1,f2,h1,h2,h3.mono e e',aJ.mono e e' h4⟩
theorem aJ.frame {K:PySem.W.Frag}{G H:Hp}{a:Addr}{o:HO}:∀ {ρ:En} {σ:St} {fp:List Addr},aJ K G H ρ σ fp->a ∉ fp->aJ K G (upd H a o) ρ σ fp
 |[],_,_,h,_=>h
 |none::_,_,_,⟨o,r,h1,h2⟩,n=>⟨o,r,h1,aJ.frame h2 n⟩
 |some _::_,_,_,⟨v,r,f1,f2,h1,h2,h3,h4⟩,n=>by
  subst h2
  exact ⟨v,r,f1,f2,h1,rfl,h3.frame fun z=>n (List.mem_append_left _ z),aJ.frame h4 fun z=>n (List.mem_append_right _ z)⟩
theorem aJ.there {K:PySem.W.Frag}{G H:Hp}:∀ {ρ:En} {σ:St} {fp:List Addr},aJ K G H ρ σ fp->∀ a ∈ fp,∃ o,H a=some o
 |[],_,_,⟨_,h⟩,a,ha=>by subst h;cases ha
 |none::_,_,_,⟨o,r,h1,h2⟩,a,ha=>aJ.there h2 a ha
 |some _::_,_,_,⟨v,r,f1,f2,h1,h2,h3,h4⟩,a,ha=>by
  subst h2
  rcases List.mem_append.mp ha with ha | ha
  ·exact h3.there a ha
  ·exact aJ.there h4 a ha
theorem aJ.off {K:PySem.W.Frag}{G H G1 H1:Hp}{ρ:En}{σ:St}{fp:List Addr}(r:aJ K G H ρ σ fp)(s1:Step G H G1 H1)(g:∀ a ∈ fp,G a=none):∀ a ∈ fp,G1 a=none:=fun a ha=>by
 cases q:G1 a with
 |none=>rfl
 |some u =>
  obtain ⟨u',bh⟩:=r.there a ha
  have:=s1.n a (g a ha) (by rw [q];exact fun z=>nomatch z)
  rw [bh] at this
  cases this
theorem aJ.qO {K:PySem.W.Frag}{G H:Hp}:∀ {ρ:En} {σ:St} {fp:List Addr},aJ K G H ρ σ fp->cj K G ρ σ
 |[],_,_,_,j,d,h=>by cases j<;>cases h
 |none::_,_,_,⟨o,r,h1,h2⟩,0,d,h=>by cases h
 |none::_,_,_,⟨o,r,h1,h2⟩,j+1,d,h=>by subst h1;exact aJ.qO h2 j d h
 |some _::_,_,_,⟨v,r,f1,f2,h1,h2,h3,h4⟩,0,d,h=>by cases h;subst h1;exact ⟨v,rfl,h3.2⟩
 |some _::_,_,_,⟨v,r,f1,f2,h1,h2,h3,h4⟩,j+1,d,h=>by subst h1;exact aJ.qO h4 j d h
def pk (ρ:En):En:=ρ.map (Option.map fun t=>.fz (er t))
theorem aJ.pk {K:PySem.W.Frag}{G H G':Hp}(e:ai G G'):∀ {ρ:En} {σ:St} {fp:List Addr},aJ K G H ρ σ fp->(∀ a ∈ fp,G' a=H a)->cj K G' (pk ρ) σ
 |[],_,_,_,_,j,d,h=>by cases j<;>cases h
 |none::_,_,_,⟨o,r,h1,h2⟩,_,0,d,h=>by cases h
 |none::_,_,_,⟨o,r,h1,h2⟩,q,j+1,d,h=>by subst h1;exact aJ.pk e h2 q j d h
 |some _::_,_,_,⟨v,r,f1,f2,h1,h2,h3,h4⟩,q,0,d,h=>by
  cases h;subst h1 h2;exact ⟨v,rfl,h3.hv e fun a ha=>q a (List.mem_append_left _ ha)⟩
 |some _::_,_,_,⟨v,r,f1,f2,h1,h2,h3,h4⟩,q,j+1,d,h=>by
  subst h1 h2;exact aJ.pk e h4 (fun a ha=>q a (List.mem_append_right _ ha)) j d h
theorem aJ.split {K:PySem.W.Frag}{G H:Hp}:∀ {ρ:En} {σ:St} {fp:List Addr} {j:Nat} {t:Tr},aJ K G H ρ σ fp->ρ[j]?=some (some t) ->
  ∃ v f fr,σ[j]?=some (some v)/\Ow K G H t v f/\aJ K G H (ρ.set j none) σ fr/\fp.Perm (f++fr)
 |none::_,_,_,0,_,_,h=>by cases h
 |none::_,_,_,j+1,t,⟨o,r,h1,h2⟩,h=>by
  subst h1
  obtain ⟨v,f,fr,q1,q2,q3,q4⟩:=aJ.split (j:=j) h2 h
  exact ⟨v,f,fr,q1,q2,⟨o,r,rfl,q3⟩,q4⟩
 |some _::_,_,_,0,t,⟨v,r,f1,f2,h1,h2,h3,h4⟩,h=>by
  cases h;subst h1 h2
  exact ⟨v,f1,f2,rfl,h3,⟨some v,r,rfl,h4⟩,.refl _⟩
 |some _::_,_,_,j+1,t,⟨v,r,f1,f2,h1,h2,h3,h4⟩,h=>by
  subst h1 h2
  obtain ⟨v',f,fr,q1,q2,q3,q4⟩:=aJ.split (j:=j) h4 h
  refine ⟨v',f,f1++fr,q1,q2,⟨v,r,f1,fr,rfl,rfl,h3,q3⟩,?_⟩
  refine (List.Perm.append_left f1 q4).trans ?_
  rw [<- List.append_assoc,<- List.append_assoc]
  exact List.Perm.append_right fr List.perm_append_comm
theorem aJ.forget {K:PySem.W.Frag}{G H:Hp}:∀ {ρ:En} {σ:St} {fp:List Addr} (j:Nat),aJ K G H ρ σ fp->∃ fr,aJ K G H (ρ.set j none) σ fr/\fr.Sublist fp
 |[],_,_,_,h=>⟨_,h,.refl _⟩
 |none::_,_,_,0,⟨o,r,h1,h2⟩=>⟨_,⟨o,r,h1,h2⟩,.refl _⟩
 |none::_,_,_,j+1,⟨o,r,h1,h2⟩=>by
  obtain ⟨fr,q1,q2⟩:=aJ.forget j h2
  exact ⟨fr,⟨o,r,h1,q1⟩,q2⟩
 |some _::_,_,_,0,⟨v,r,f1,f2,h1,h2,h3,h4⟩=>⟨f2,⟨some v,r,h1,h4⟩,h2 ▸ List.sublist_append_right _ _⟩
 |some _::_,_,_,j+1,⟨v,r,f1,f2,h1,h2,h3,h4⟩=>by
  obtain ⟨fr,q1,q2⟩:=aJ.forget j h4
  exact ⟨f1++fr,⟨v,r,f1,fr,h1,rfl,h3,q1⟩,h2 ▸ List.Sublist.append (.refl _) q2⟩
theorem aJ.put {K:PySem.W.Frag}{G H:Hp}:∀ {ρ:En} {σ:St} {fr:List Addr} {j:Nat} {t:Tr} {v:V} {f:List Addr},aJ K G H ρ σ fr->ρ[j]?=some none->Ow K G H t v f ->
  ∃ fp,aJ K G H (ρ.set j (some t)) (σ.set j (some v)) fp/\fp.Perm (f++fr)
 |none::_,_,fr,0,t,v,f,⟨o,r,h1,h2⟩,_,w=>by subst h1;exact ⟨_,⟨v,r,f,fr,rfl,rfl,w,h2⟩,.refl _⟩
 |none::_,_,_,j+1,t,v,f,⟨o,r,h1,h2⟩,h,w=>by
  subst h1
  obtain ⟨fp,q1,q2⟩:=aJ.put (j:=j) h2 h w
  exact ⟨fp,⟨o,_,rfl,q1⟩,q2⟩
 |some _::_,_,_,0,_,_,_,_,h,_=>by cases h
 |some _::_,_,_,j+1,t,v,f,⟨v',r,f1,f2,h1,h2,h3,h4⟩,h,w=>by
  subst h1 h2
  obtain ⟨fp,q1,q2⟩:=aJ.put (j:=j) h4 h w
  refine ⟨f1++fp,⟨v',_,f1,fp,rfl,rfl,h3,q1⟩,?_⟩
  refine (List.Perm.append_left f1 q2).trans ?_
  rw [<- List.append_assoc,<- List.append_assoc]
  exact List.Perm.append_right f2 List.perm_append_comm
theorem aJ.len {K:PySem.W.Frag}{G H:Hp}:∀ {ρ:En} {σ:St} {fp:List Addr},aJ K G H ρ σ fp->ρ.length=σ.length
 |[],_,_,⟨h,_⟩=>by rw [h];rfl
 |none::_,_,_,⟨o,r,h1,h2⟩=>by subst h1;rw [List.length_cons,List.length_cons,aJ.len h2]
 |some _::_,_,_,⟨v,r,f1,f2,h1,h2,h3,h4⟩=>by subst h1;rw [List.length_cons,List.length_cons,aJ.len h4]
structure du (K:PySem.W.Frag) (G0 H0 G H:Hp) (ρ:En) (σ:St) (fp:List Addr):Prop where
 st:Step G0 H0 G H
 own:aJ K G H ρ σ fp
 g:∀ a ∈ fp,G a=none
 n:∀ a ∈ fp,H0 a=none
 d:fp.Nodup
def RS (K:PySem.W.Frag)(G0 H0 G H:Hp)(ρ:En)(σ:St):Prop:=∃ fp,du K G0 H0 G H ρ σ fp
theorem rq {α:Type}{ρ:List (Option α)}{j:Nat}(h:j < ρ.length):(ρ.set j none)[j]?=some none:=by rw [List.getElem?_set];simp [h]
theorem du.forget {K:PySem.W.Frag}{G0 H0 G H:Hp}{ρ:En}{σ:St}{fp:List Addr}(r:du K G0 H0 G H ρ σ fp)(j:Nat):∃ fr,du K G0 H0 G H (ρ.set j none) σ fr/\fr.Sublist fp:=by
 obtain ⟨fr,q1,q2⟩:=r.own.forget j
 exact ⟨fr,⟨r.st,q1,fun a ha=>r.g a (q2.subset ha),fun a ha=>r.n a (q2.subset ha),r.d.sublist q2⟩,q2⟩
theorem RS.forget {K:PySem.W.Frag}{G0 H0 G H:Hp}{ρ:En}{σ:St}(r:RS K G0 H0 G H ρ σ)(j:Nat):RS K G0 H0 G H (ρ.set j none) σ:=by
 obtain ⟨fp,r⟩:=r
 obtain ⟨fr,q,_⟩:=r.forget j
 exact ⟨fr,q⟩
theorem du.set {K:PySem.W.Frag}{G0 H0 G H G1 H1:Hp}{ρ:En}{σ:St}{fp fq:List Addr}{j:Nat}{t:Tr}{v:V}(r:du K G0 H0 G H ρ σ fp)(hj:j < ρ.length)(e:Step G H G1 H1)(o:Ow K G1 H1 t v fq)(w:Nw H G1 fq) :
  RS K G0 H0 G1 H1 (ρ.set j (some t)) (σ.set j (some v)):=by
 obtain ⟨fr,r1,sub⟩:=r.forget j
 have Z1:=r1.own.mono e.g e.h
 obtain ⟨iL,q1,q2⟩:=Z1.put (rq hj) o
 rw [List.set_set] at q1
 have dis:∀ a ∈ fq,∀ b ∈ fr,a ≠ b:=fun a ha b hb z=>by
  subst z
  obtain ⟨u,hu⟩:=r1.own.there a hb
  rw [w.n a ha] at hu;cases hu
 refine ⟨iL,r.st.trans e,q1,fun a ha=>?_,fun a ha=>?_,q2.nodup_iff.mpr (List.nodup_append.mpr ⟨w.d,r1.d,dis⟩)⟩
 ·rcases List.mem_append.mp (q2.mem_iff.mp ha) with z | z
  ·exact w.g a z
  ·cases q:G1 a with
   |none=>rfl
   |some u =>
    obtain ⟨u',bh⟩:=r1.own.there a z
    have:=e.n a (r1.g a z) (by rw [q];exact fun z=>nomatch z)
    rw [bh] at this;cases this
 ·rcases List.mem_append.mp (q2.mem_iff.mp ha) with z | z
  ·exact r.st.h.free (w.n a z)
  ·exact r1.n a z
def less (H:Hp)(fp:List Addr):Hp:=fun a=>if a ∈ fp then none else H a
theorem KJ {H:Hp}{fp:List Addr}{a:Addr}(h:a ∈ fp):less H fp a=none:=by unfold less;rw [if_pos h]
theorem JF {H:Hp}{fp:List Addr}{a:Addr}(h:a ∉ fp):less H fp a=H a:=by unfold less;rw [if_neg h]
theorem U7 {H:Hp}{fp:List Addr}:ai (less H fp) H:=fun b o e=>by
 by_cases q:b ∈ fp
 ·rw [KJ q] at e;cases e
 ·rw [JF q] at e;exact e
theorem Jf {G H:Hp}{fp:List Addr}(s:ai G H)(h:∀ a ∈ fp,G a=none):ai G (less H fp):=fun b o e=>by
 by_cases q:b ∈ fp
 ·rw [h b q] at e;cases e
 ·rw [JF q];exact s b o e
theorem du.rebase {K:PySem.W.Frag}{G0 H0 G H:Hp}{ρ:En}{σ:St}{fp:List Addr}(r:du K G0 H0 G H ρ σ fp):du K G (less H fp) G H ρ σ fp :=
 ⟨⟨ai.refl _,U7,r.st.s,fun a h h'=>absurd h h'⟩,r.own,r.g,fun a ha=>KJ ha,r.d⟩
theorem du.base {K:PySem.W.Frag}{G0 H0 G H:Hp}{ρ:En}{σ:St}{fp:List Addr}(r:du K G0 H0 G H ρ σ fp):Step G0 H0 G (less H fp) :=
 ⟨r.st.g,Jf r.st.h r.n,Jf r.st.s r.g,r.st.n⟩
theorem RS.under {K:PySem.W.Frag}{G0 H0 G1 H1 G H:Hp}{ρ:En}{σ:St}(e:Step G0 H0 G1 H1)(r:RS K G1 H1 G H ρ σ):RS K G0 H0 G H ρ σ:=by
 obtain ⟨fp,r⟩:=r
 exact ⟨fp,e.trans r.st,r.own,r.g,fun a ha=>e.h.free (r.n a ha),r.d⟩
inductive Out where
 |nx (ρ:En)
 |rt (t:Tr)
def wW (K:PySem.W.Frag)(G0 H0:Hp)(D:Ends):Out->Prop
 | .nx ρ => ∀ σ G H,RS K G0 H0 G H ρ σ->D.nx σ H
 | .rt t=>∀ v G H fq,Step G0 H0 G H->Ow K G H t v fq->Nw H0 G fq->D.rt v H
theorem wW.under {K:PySem.W.Frag}{G0 H0 G1 H1:Hp}{D:Ends}{o:Out}(e:Step G0 H0 G1 H1)(p:wW K G0 H0 D o):wW K G1 H1 D o:=by
 cases o with
 |nx ρ => exact fun σ G H r=>p σ G H (r.under e)
 |rt t=>exact fun v G H fq s o w=>p v G H fq (e.trans s) o ⟨fun a ha=>e.h.free (w.n a ha),w.g,w.d⟩
def PN (K:PySem.W.Frag)(τ:TS)(ρ:En)(o:Out):Prop:=∀ D σ G0 H0 G H,RS K G0 H0 G H ρ σ->wW K G0 H0 D o->τ D σ H
section
variable {ι:Type}
def Rn (F:aY ι)(st:Stmt)(ρ:En)(o:Out):Prop:=∃ τ:TS,(∀ i,PS (F.cx i) st τ)/\PN F.K τ ρ o
def bC (F:aY ι)(bA:List Stmt)(ρ:En)(o:Out):Prop:=∃ τ:TS,(∀ i,cL (F.cx i) bA τ)/\PN F.K τ ρ o
def ck (F:aY ι)(e:Expr)(ρ:En)(t:Tr):Prop:=∃ τ:TE,(∀ i,PE (F.cx i) e τ)/\∀ σ G H fp Q,ai G H->aJ F.K G H ρ σ fp->(∀ a ∈ fp,G a=none)->Kv F.K G H t Q->τ σ H Q
def cX (F:aY ι)(e:Expr)(ρ:En)(b:Bool):Prop:=∃ τ:TT,(∀ i,PT (F.cx i) e τ)/\∀ σ G H fp Q,ai G H->aJ F.K G H ρ σ fp->(∀ a ∈ fp,G a=none)->(∀ G' H',Step G H G' H'->Q b H')->τ σ H Q
variable {F:aY ι}{e a b c:Expr}{es:List Expr}{ρ ρ1:En}{t:Tr}{ts:List Tr}{pos:Pos}{o:Out}{st:Stmt}{bA A B:List Stmt}
theorem Ev.s (h:Ev F e ρ t):ck F e ρ t:=let ⟨τ,x,y⟩:=h;⟨τ,x,fun σ G H fp Q s r _ k=>y σ G H Q s r.qO k⟩
theorem Et.s {p:Bool}(h:Et F e ρ p):cX F e ρ p:=let ⟨τ,x,y⟩:=h;⟨τ,x,fun σ G H fp Q s r _ k=>y σ G H Q s r.qO k⟩
mutual
def Cl:Tr->Prop
 | .fz (.fl _)=>True
 | .fz _=>False
 | .ow ts=>nJ ts
 | .tp ts=>nJ ts
def nJ:List Tr->Prop
 |[] => True
 |t::ts=>Cl t/\nJ ts
end
mutual
theorem Ow.cl {K:PySem.W.Frag}{G G' H:Hp}:∀ {t:Tr} {v:V} {fp:List Addr},Cl t->Ow K G H t v fp->Ow K G' H t v fp
 | .fz (.fl _),_,_,_,h=>h
 | .fz (.lst _),_,_,c,_=>c.elim
 | .fz (.tup _),_,_,c,_=>c.elim
 | .ow _,_,_,c,⟨b,vs,fq,h1,h2,h3,h4⟩=>⟨b,vs,fq,h1,h2,aG.cl c h3,h4⟩
 | .tp _,_,_,c,⟨b,vs,fq,h1,h2,h3,h4⟩=>⟨b,vs,fq,h1,h2,aG.cl c h3,h4⟩
theorem aG.cl {K:PySem.W.Frag}{G G' H:Hp}:∀ {ts:List Tr} {vs:List V} {fp:List Addr},nJ ts->aG K G H ts vs fp->aG K G' H ts vs fp
 |[],_,_,_,h=>h
 |_::_,_,_,⟨c1,c2⟩,⟨v,r,f1,f2,h1,h2,h3,h4⟩=>⟨v,r,f1,f2,h1,h2,h3.cl c1,aG.cl c2 h4⟩
end
theorem sr:∀ ns:List Int,nJ (ns.map fun n=>Tr.fz (di n))
 |[] => True.intro
 |_::ns=>⟨True.intro,sr ns⟩
theorem Ev.pk (h:Ev F e (pk ρ) t)(c:Cl t):ck F e ρ t:=by
 obtain ⟨τ,x,y⟩:=h
 refine ⟨τ,x,fun σ G H fp Q s r hg k=>?_⟩
 refine y σ (dk G H fp) H Q (lN s) (r.pk (g9 hg) fun a ha=>iU ha) fun v G' H' fq st o w=>?_
 refine k v G H' fq ⟨ai.refl _,st.h,s.trans st.h,fun a h h'=>absurd h h'⟩ (o.cl c) ⟨w.n,fun a ha=>s.free (w.n a ha),w.d⟩
theorem Et.pk {p:Bool}(h:Et F e (pk ρ) p):cX F e ρ p:=by
 obtain ⟨τ,x,y⟩:=h
 refine ⟨τ,x,fun σ G H fp Q s r hg k=>?_⟩
 refine y σ (dk G H fp) H Q (lN s) (r.pk (g9 hg) fun a ha=>iU ha) fun G' H' st=>?_
 exact k G H' ⟨ai.refl _,st.h,s.trans st.h,fun a h h'=>absurd h h'⟩
theorem vI:bC F [] ρ (.nx ρ):=⟨MR,fun _=>VW,fun D σ G0 H0 G H r k=>k σ G H r⟩
theorem aw (h1:Rn F st ρ (.nx ρ1))(h2:bC F bA ρ1 o):bC F (st::bA) ρ o:=by
 obtain ⟨τ,x,y⟩:=h1
 obtain ⟨bK,x',y'⟩:=h2
 exact ⟨dU τ bK,fun i=>fm (x i) (x' i),fun D σ G0 H0 G H r k=>y _ σ G0 H0 G H r fun aA G1 H1 r1=>y' D aA G0 H0 G1 H1 r1 k⟩
theorem vJ (h1:Rn F st ρ (.rt t)):bC F (st::bA) ρ (.rt t):=by
 obtain ⟨τ,x,y⟩:=h1
 exact ⟨dU τ fO,fun i=>fm (x i) jh,fun D σ G0 H0 G H r k=>y _ σ G0 H0 G H r k⟩
theorem aK (h1:Rn F st ρ o):bC F [st] ρ o:=by
 obtain ⟨τ,x,y⟩:=h1
 exact ⟨τ,fun i=>jT (x i),y⟩
theorem aQ (j:Nat){x:Str}{pos':Pos}(he:ck F e ρ t)(hN:∀ i,(F.cx i).N.Nodup)(hj:Nat.blt j ρ.length=true:=by rfl)(hi:∀ i,(F.cx i).N[j]?=some x:=by intro _;rfl)(hx:∀ i,Loc (F.cx i).env.scope x:=by intro _;first | exact Or.inl rfl | exact Or.inr rfl)(hs:∀ i,swapsWith e (some (.Name x pos')) pos.line (F.cx i).env=pure false:=by intro _;rfl)(hf:∀ i,(F.cx i).fn x=true\/(F.cx i).env.scope.names.lookup x=some .local:=by intro _;first | exact .inl rfl | exact .inr rfl) :
  Rn F (.Assign [.Name x pos'] e pos) ρ (.nx (ρ.set j (some t))):=by
 obtain ⟨τ,y,z⟩:=he
 refine ⟨i3 τ (cZ j),fun i=>ji (hN i) (hi i) (hx i) (y i) (hs i) (hf i),fun D σ G0 H0 G H r k=>?_⟩
 obtain ⟨fp,r⟩:=r
 exact z σ G H fp _ r.st.s r.own r.g fun v G1 H1 fq s1 o w=>k _ G1 H1 (r.set (Nat.le_of_ble_eq_true hj) s1 o w)
theorem cf (he:ck F e ρ t):Rn F (.Return (some e) pos) ρ (.rt t):=by
 obtain ⟨τ,y,z⟩:=he
 refine ⟨kN τ,fun i=>lU (y i),fun D σ G0 H0 G H r k=>?_⟩
 obtain ⟨fp,r⟩:=r
 exact z σ G H fp _ r.st.s r.own r.g fun v G1 H1 fq s1 o w=>k v G1 H1 fq (r.st.trans s1) o ⟨fun a ha=>r.st.h.free (w.n a ha),w.g,w.d⟩
theorem kD (j:Nat){x:Str}{p':Pos}(h : ρ[j]?=some (some t))(hN:∀ i,(F.cx i).N[j]?=some x:=by intro _;rfl)(hv:∀ i,jt (F.cx i).env.scope x:=by intro _;first | exact Or.inl rfl | exact Or.inr (Or.inl rfl) | exact Or.inr (Or.inr rfl))(hd:(x==("__debug__" : Str))=false:=by decide)(hc:(x==("__classdict__" : Str))=false:=by decide):Rn F (.Return (some (.Name x p')) pos) ρ (.rt t):=by
 refine ⟨kN (bT j),fun i=>lU (ni (hN i) (hv i) hd hc),fun D σ G0 H0 G H r k=>?_⟩
 obtain ⟨fp,r⟩:=r
 obtain ⟨v,f,fr,q1,q2,q3,q4⟩:=r.own.split h
 have sub:∀ a ∈ f,a ∈ fp:=fun a ha=>q4.mem_iff.mpr (List.mem_append_left _ ha)
 exact ⟨v,q1,k v G H f r.st q2 ⟨fun a ha=>r.n a (sub a ha),fun a ha=>r.g a (sub a ha),(List.nodup_append.mp (q4.nodup_iff.mp r.d)).1⟩⟩
theorem vK (he:ck F e ρ t)(hs:∀ i,swapsWith e none pos.line (F.cx i).env=pure false:=by intro _;rfl):Rn F (.Expr e pos) ρ (.nx ρ):=by
 obtain ⟨τ,y,z⟩:=he
 refine ⟨gL τ,fun i=>lQ (y i) (hs i),fun D σ G0 H0 G H r k=>?_⟩
 obtain ⟨fp,r⟩:=r
 refine z σ G H fp _ r.st.s r.own r.g fun v G1 H1 fq s1 o w=>k σ G1 H1 ⟨fp,r.st.trans s1,r.own.mono s1.g s1.h,r.own.off s1 r.g,r.n,r.d⟩
theorem wu {p:Bool}(hc:cX F c ρ p)(h1:p=true->bC F A ρ o)(h2:p=false->bC F B ρ o):Rn F (.If c A B pos) ρ o:=by
 obtain ⟨τ,y,z⟩:=hc
 have key:∀ {G0 H0 G H G1 H1:Hp} {σ:St} {fp:List Addr},du F.K G0 H0 G H ρ σ fp->Step G H G1 H1->RS F.K G0 H0 G1 H1 ρ σ:=fun {G0 H0 G H G1 H1 σ fp} r s1=>⟨fp,r.st.trans s1,r.own.mono s1.g s1.h,r.own.off s1 r.g,r.n,r.d⟩
 cases p with
 |true =>
  obtain ⟨bK,x',y'⟩:=h1 rfl
  refine ⟨nH τ bK fO,fun i=>sQ (y i) (x' i) jh,fun D σ G0 H0 G H r k=>?_⟩
  obtain ⟨fp,r⟩:=r
  exact z σ G H fp _ r.st.s r.own r.g fun G1 H1 s1=>i6 (y' D σ G0 H0 G1 H1 (key r s1) k)
 |false =>
  obtain ⟨bK,x',y'⟩:=h2 rfl
  refine ⟨nH τ fO bK,fun i=>sQ (y i) jh (x' i),fun D σ G0 H0 G H r k=>?_⟩
  obtain ⟨fp,r⟩:=r
  exact z σ G H fp _ r.st.s r.own r.g fun G1 H1 s1=>kg (y' D σ G0 H0 G1 H1 (key r s1) k)
theorem vv {α:Type}:∀ {l:List α} {j:Nat} {v : α},l[j]?=some v->l.set j v=l
 |_::_,0,_,h=>by cases h;rfl
 |_::_,j+1,_,h=>by rw [List.set_cons_succ,vv (l:=_) (j:=j) h]
theorem Ts (j:Nat)(hj : ρ[j]?=some (some t))(h:bC F bA (ρ.set j (some (.fz (er t)))) o):bC F bA ρ o:=by
 obtain ⟨τ,x,y⟩:=h
 refine ⟨τ,x,fun D σ G0 H0 G H r k=>?_⟩
 obtain ⟨fp,r⟩:=r
 obtain ⟨v,f,fr,q1,q2,q3,q4⟩:=r.own.split hj
 have nd:=List.nodup_append.mp (q4.nodup_iff.mp r.d)
 have sub:∀ a ∈ f,a ∈ fp:=fun a ha=>q4.mem_iff.mpr (List.mem_append_left _ ha)
 have N0:∀ a ∈ fr,a ∈ fp:=fun a ha=>q4.mem_iff.mpr (List.mem_append_right _ ha)
 have sm:ai G (dk G H f):=g9 fun a ha=>r.g a (sub a ha)
 have lt:j < ρ.length:=by
  rcases Nat.lt_or_ge j ρ.length with z | z
  ·exact z
  ·rw [List.getElem?_eq_none z] at hj;cases hj
 obtain ⟨iL,p1,p2⟩:=(q3.mono sm (ai.refl _)).put (f:=[]) (t:=.fz (er t)) (rq lt) ⟨rfl,q2.hv sm fun a ha=>iU ha⟩
 rw [List.set_set,vv q1] at p1
 refine y D σ G0 H0 (dk G H f) H ⟨iL,⟨r.st.g.trans sm,r.st.h,lN r.st.s,fun a h h'=>?_⟩,p1,fun a ha=>?_,fun a ha=>r.n a (N0 a (p2.mem_iff.mp ha)),p2.nodup_iff.mpr nd.2.1⟩ k
 ·by_cases z:a ∈ f
  ·exact r.n a (sub a z)
  ·rw [pE z] at h';exact r.st.n a h h'
 ·have z:=p2.mem_iff.mp ha
  rw [pE fun z'=>nd.2.2 a z' a z rfl]
  exact r.g a (N0 a z)
theorem du.chg {K:PySem.W.Frag}{G0 H0 G H G1 H1:Hp}{ρ:En}{σ:St}{fp:List Addr}{j:Nat}{t:Tr}(r:du K G0 H0 G H ρ σ fp)(hj : ρ[j]?=some (some t))(s1:Step G H G1 H1) :
  ∃ v f,σ[j]?=some (some v)/\Ow K G H t v f/\Ow K G1 H1 t v f/\f.Nodup/\(∀ a ∈ f,a ∈ fp)/\∀ l o t' f',l ∈ f->Ow K G1 (upd H1 l o) t' v f'->f'.Nodup->(∀ a ∈ f',a ∈ f\/(H a=none/\G1 a=none))->RS K G0 H0 G1 (upd H1 l o) (ρ.set j (some t')) σ:=by
 obtain ⟨v,f,fr,q1,q2,q3,q4⟩:=r.own.split hj
 have dC:=List.nodup_append.mp (q4.nodup_iff.mp r.d)
 have lg:∀ a ∈ f,a ∈ fp:=fun a ha=>q4.mem_iff.mpr (List.mem_append_left _ ha)
 have PQ:∀ a ∈ fr,a ∈ fp:=fun a ha=>q4.mem_iff.mpr (List.mem_append_right _ ha)
 have lt:j < ρ.length:=by
  rcases Nat.lt_or_ge j ρ.length with z | z
  ·exact z
  ·rw [List.getElem?_eq_none z] at hj;cases hj
 have lG:∀ a ∈ fp,G1 a=none:=fun a ha=>by
  cases q:G1 a with
  |none=>rfl
  |some u =>
   obtain ⟨u',bh⟩:=r.own.there a ha
   have:=s1.n a (r.g a ha) (by rw [q];exact fun z=>nomatch z)
   rw [bh] at this;cases this
 refine ⟨v,f,q1,q2,q2.mono s1.g s1.h,dC.1,lg,fun l o t' f' hl ow nw hw=>?_⟩
 have new:∀ a,H a=none->a ∉ fp:=fun a ha hb=>by
  obtain ⟨u,hu⟩:=r.own.there a hb
  rw [ha] at hu;cases hu
 have q3':aJ K G1 (upd H1 l o) (ρ.set j none) σ fr:=(q3.mono s1.g s1.h).frame fun z=>dC.2.2 l hl l z rfl
 obtain ⟨iL,PR,xH⟩:=q3'.put (rq lt) ow
 rw [List.set_set,vv q1] at PR
 have N1:∀ a ∈ iL,a ∈ fp\/(H a=none/\G1 a=none):=fun a ha=>by
  rcases List.mem_append.mp (xH.mem_iff.mp ha) with z | z
  ·exact (hw a z).imp (lg a) id
  ·exact .inl (PQ a z)
 refine ⟨iL,⟨(r.st.trans s1).g,fun b u hb=>?_,fun b u hb=>?_,(r.st.trans s1).n⟩,PR,fun a ha=>?_,fun a ha=>?_,?_⟩
 ·have fe:=(r.st.trans s1).h b u hb
  rw [aP fun z=>?_]
  ·exact fe
  ·subst z;rw [r.n _ (lg _ hl)] at hb;cases hb
 ·have fe:=s1.s b u hb
  rw [aP fun z=>?_]
  ·exact fe
  ·subst z;rw [lG _ (lg _ hl)] at hb;cases hb
 ·exact (N1 a ha).elim (lG a) fun z=>z.2
 ·exact (N1 a ha).elim (r.n a) fun z=>r.st.h.free z.1
 ·refine xH.nodup_iff.mpr (List.nodup_append.mpr ⟨nw,dC.2.1,fun a ha b hb z=>?_⟩)
  subst z
  rcases hw a ha with z | z
  ·exact dC.2.2 a z a hb rfl
  ·exact new a z.1 (PQ a hb)
theorem du.mut {K:PySem.W.Frag}{G0 H0 G H G1 H1:Hp}{ρ:En}{σ:St}{fp:List Addr}{j:Nat}{us:List Tr}(r:du K G0 H0 G H ρ σ fp)(hj : ρ[j]?=some (some (.ow us)))(s1:Step G H G1 H1) :
  ∃ l vs fq,σ[j]?=some (some (.ref l))/\H l=some (.lst vs)/\H1 l=some (.lst vs)/\aG K G1 H1 us vs fq/\fq.Nodup/\(∀ a ∈ fq,a ∈ fp)/\∀ xI ws fw,aG K G1 H1 xI ws fw->fw.Nodup->(∀ a ∈ fw,a ∈ fq\/(H a=none/\G1 a=none))->RS K G0 H0 G1 (upd H1 l (.lst ws)) (ρ.set j (some (.ow xI))) σ:=by
 obtain ⟨v,f,q1,q2,q3,nd,lg,q⟩:=r.chg hj s1
 obtain ⟨l,vs,fq,rfl,hl,ol,rfl⟩:=q3
 obtain ⟨l',mO,PU,e1,xJ,_,e2⟩:=q2
 cases e1
 have ev:mO=vs:=by
  have:=s1.h _ _ xJ
  rw [hl] at this
  cases this;rfl
 subst ev
 have PV:=List.nodup_cons.mp nd
 refine ⟨l,mO,fq,q1,xJ,hl,ol,PV.2,fun a ha=>lg a (.tail _ ha),fun xI ws fw ow nw hw=>?_⟩
 have PX:l ∉ fw:=fun z=>(hw l z).elim PV.1 fun z=>by rw [z.1] at xJ;cases xJ
 exact q l (.lst ws) (.ow xI) (l::fw) (.head _) ⟨l,ws,fw,rfl,bE,ow.frame PX,rfl⟩ (List.nodup_cons.mpr ⟨PX,nw⟩) fun a ha=>(List.mem_cons.mp ha).elim (fun z=>.inl (z ▸ .head _)) fun z=>(hw a z).imp (fun z=>.tail _ z) id
theorem rL (j:Nat){x:Str}{us:List Tr}{p1 p2 p3:Pos}(h : ρ[j]?=some (some (.ow us)))(he:ck F e ρ t)(hz:us.length<sizeLine)(hN:∀ i,(F.cx i).N[j]?=some x:=by intro _;rfl)(hv:∀ i,jt (F.cx i).env.scope x:=by intro _;first | exact Or.inl rfl | exact Or.inr (Or.inl rfl) | exact Or.inr (Or.inr rfl))(hd:(x==("__debug__" : Str))=false:=by decide)(hc:(x==("__classdict__" : Str))=false:=by decide)(ig:∀ i,attributeBase (.Name x p1) "append" (F.cx i).env (eval (.Name x p1) (F.cx i).env)=eval (.Name x p1) (F.cx i).env:=by intro _;rfl)(iu:∀ i,((backTo p3 (starEach [e] (F.cx i).env)).all (fun x=>!x.1)&&(backToKw p3 (keywordEach [] (F.cx i).env)).all (fun x=>x.1.isSome)&&decide (([e]:List Expr).length+([]:List Keyword).length+(if ([]:List Keyword).isEmpty then 0 else 1)<30))=true:=by intro _;rfl)(hline:(p2.endLine==p3.line)=true:=by rfl)(hs:∀ i,starEach [e] (F.cx i).env=[(false,eval e (F.cx i).env)]:=by intro _;rfl)(gx:∀ i,swapsWith (.Call (.Attribute (.Name x p1) "append" p2) [e] [] p3) none pos.line (F.cx i).env=pure false:=by intro _;rfl) :
  Rn F (.Expr (.Call (.Attribute (.Name x p1) "append" p2) [e] [] p3) pos) ρ (.nx (ρ.set j (some (.ow (us++[t]))))):=by
 obtain ⟨τ,y,z⟩:=he
 refine ⟨gL (jz F.K "list" sf (bT j) (bY τ cI)),fun i=>lQ (F.hK i ▸ me PySem.F.plainAttrs_list PySem.F.slot_list_append PySem.F.type_list_append mY (ni (hN i) (hv i) hd hc) (aF (y i) bu (hs i)) (ig i) (iu i) hline (hs i) rfl) (gx i),fun D σ G0 H0 G H r k=>?_⟩
 obtain ⟨fp,r⟩:=r
 obtain ⟨l0,Ea,Eb,c1,c2,_⟩:=r.mut h (.refl r.st.s)
 refine ⟨_,c1,.inl ⟨rfl,_,aH.of c2⟩,?_⟩
 refine z σ G H fp _ r.st.s r.own r.g fun v1 G1 H1 f1 s1 o1 w1=>?_
 obtain ⟨l,vs,fq,d1,d2,d3,d4,d5,d6,d7⟩:=r.mut h s1
 rw [c1] at d1
 cases d1
 refine ⟨l0,vs,v1,rfl,rfl,d3,by rw [<- d4.length];exact hz,k σ G1 _ (d7 (us++[t]) (vs++[v1]) (fq++(f1++[])) (d4.append ⟨v1,[],f1,[],rfl,rfl,o1,rfl,rfl⟩) ?_ fun a ha=>?_)⟩
 ·rw [List.append_nil]
  refine List.nodup_append.mpr ⟨d5,w1.d,fun a ha b hb e=>?_⟩
  subst e
  obtain ⟨u,hu⟩:=r.own.there a (d6 a ha)
  rw [w1.n a hb] at hu;cases hu
 ·rw [List.append_nil] at ha
  exact (List.mem_append.mp ha).imp id fun z=>⟨w1.n a z,w1.g a z⟩
theorem Uj (j:Nat){x:Str}{us:List Tr}{p1 p2 p3:Pos}(h : ρ[j]?=some (some (.ow us))){mO:List Tr}(he:ck F e ρ (.ow mO))(hz:us.length+mO.length<=sizeLine)(hN:∀ i,(F.cx i).N[j]?=some x:=by intro _;rfl)(hv:∀ i,jt (F.cx i).env.scope x:=by intro _;first | exact Or.inl rfl | exact Or.inr (Or.inl rfl) | exact Or.inr (Or.inr rfl))(hd:(x==("__debug__" : Str))=false:=by decide)(hc:(x==("__classdict__" : Str))=false:=by decide)(ig:∀ i,attributeBase (.Name x p1) "extend" (F.cx i).env (eval (.Name x p1) (F.cx i).env)=eval (.Name x p1) (F.cx i).env:=by intro _;rfl)(iu:∀ i,((backTo p3 (starEach [e] (F.cx i).env)).all (fun x=>!x.1)&&(backToKw p3 (keywordEach [] (F.cx i).env)).all (fun x=>x.1.isSome)&&decide (([e]:List Expr).length+([]:List Keyword).length+(if ([]:List Keyword).isEmpty then 0 else 1)<30))=true:=by intro _;rfl)(hline:(p2.endLine==p3.line)=true:=by rfl)(hs:∀ i,starEach [e] (F.cx i).env=[(false,eval e (F.cx i).env)]:=by intro _;rfl)(gx:∀ i,swapsWith (.Call (.Attribute (.Name x p1) "extend" p2) [e] [] p3) none pos.line (F.cx i).env=pure false:=by intro _;rfl) :
  Rn F (.Expr (.Call (.Attribute (.Name x p1) "extend" p2) [e] [] p3) pos) ρ (.nx (ρ.set j (some (.ow (us++mO))))):=by
 obtain ⟨τ,y,z⟩:=he
 refine ⟨gL (jz F.K "list" si (bT j) (bY τ cI)),fun i=>lQ (F.hK i ▸ me PySem.F.plainAttrs_list PySem.F.slot_list_extend PySem.F.type_list_extend Jc (ni (hN i) (hv i) hd hc) (aF (y i) bu (hs i)) (ig i) (iu i) hline (hs i) rfl) (gx i),fun D σ G0 H0 G H r k=>?_⟩
 obtain ⟨fp,r⟩:=r
 obtain ⟨l0,Ea,Eb,c1,c2,_⟩:=r.mut h (.refl r.st.s)
 refine ⟨_,c1,.inl ⟨rfl,_,aH.of c2⟩,?_⟩
 refine z σ G H fp _ r.st.s r.own r.g fun v1 G1 H1 f1 s1 o1 w1=>?_
 obtain ⟨l,vs,fq,d1,d2,d3,d4,d5,d6,d7⟩:=r.mut h s1
 rw [c1] at d1
 cases d1
 obtain ⟨b,zs,fz',rfl,hb,ob,rfl⟩:=o1
 have wd:=List.nodup_cons.mp w1.d
 refine ⟨l0,b,vs,zs,rfl,rfl,d3,hb,by rw [<- d4.length,<- ob.length];exact hz,k σ G1 _ (d7 (us++mO) (vs++zs) (fq++fz') (d4.append ob) ?_ fun a ha=>?_)⟩
 ·refine List.nodup_append.mpr ⟨d5,wd.2,fun a ha b hb e=>?_⟩
  subst e
  obtain ⟨u,hu⟩:=r.own.there a (d6 a ha)
  rw [w1.n a (.tail _ hb)] at hu;cases hu
 ·exact (List.mem_append.mp ha).imp id fun z=>⟨w1.n a (.tail _ z),w1.g a (.tail _ z)⟩
end
end L2
namespace L2
open PySem PySem.Spec PyProof.Rows
def Ec (K:PySem.W.Frag)(G:Hp)(J:It)(its:List Dv):Prop:=∀ k G1 H1,ai G G1->ai G1 H1 ->
 (∀ d,its[k]?=some d->J.go k H1/\∀ x H3,J.mH k H1 x H3->∃ G3,Step G1 H1 G3 H3/\Hv K G3 d x)/\(k=its.length->J.stop k H1)
def bN {α:Type}:List Nat->List α->List (Option α)->List (Option α)
 |j::js,v::vs,σ => bN js vs (σ.set j (some v))
 |_,_,σ => σ
def hU {α:Type}:List Nat->List (Option α)->List (Option α)
 |[],ρ => ρ
 |j::js,ρ => hU js (ρ.set j none)
theorem RS.hU {K:PySem.W.Frag}{G0 H0 G H:Hp}:∀ {ρ:En} {σ:St} (js:List Nat),RS K G0 H0 G H ρ σ->RS K G0 H0 G H (L2.hU js ρ) σ
 |_,_,[],r=>r
 |_,_,j::js,r=>RS.hU js (r.forget j)
def Fg (ρ ρ':En):Prop:=∃ fs,L2.hU fs ρ=ρ'
theorem Fg.rs {K:PySem.W.Frag}{G0 H0 G H:Hp}{ρ ρ':En}{σ:St}(f:Fg ρ ρ')(r:RS K G0 H0 G H ρ σ):RS K G0 H0 G H ρ' σ:=by
 obtain ⟨fs,rfl⟩:=f
 exact r.hU fs
theorem RS.bN {K:PySem.W.Frag}{G0 H0 G H:Hp}:∀ {js:List Nat} {ds:List Dv} {vs:List V} {ρ:En} {σ:St},(∀ j ∈ js,j < ρ.length)->aO K G ds vs->RS K G0 H0 G H ρ σ->RS K G0 H0 G H (L2.bN js (ds.map .fz) ρ) (L2.bN js vs σ)
 |[],_,_,_,_,_,_,r=>r
 |_::_,[],_,_,_,_,h,r=>by rw [show _=[] from h];exact r
 |j::js,d::ds,_,ρ,σ,hj,⟨x,q,h1,h2,h3⟩,⟨fp,r⟩=>by
  subst h1
  have r':RS K G0 H0 G H (ρ.set j (some (.fz d))) (σ.set j (some x)):=r.set (t:=.fz d) (v:=x) (fq:=[]) (hj j (.head _)) (.refl r.st.s) ⟨rfl,h2⟩ .nil
  exact RS.bN (js:=js) (ds:=ds) (fun i hi=>by rw [List.length_set];exact hj i (.tail _ hi)) h3 r'
theorem cj.set {K:PySem.W.Frag}{G:Hp}{ρ:En}{σ:St}{j:Nat}{d:Dv}{v:V}(r:cj K G ρ σ)(hj:j < σ.length)(h:Hv K G d v):cj K G (ρ.set j (some (.fz d))) (σ.set j (some v)):=fun i e hi=>by
 by_cases q:i=j
 ·subst q
  rw [List.getElem?_set_self (by
   rcases Nat.lt_or_ge i ρ.length with z | z
   ·exact z
   ·rw [List.getElem?_eq_none (by rw [List.length_set];exact z)] at hi;cases hi)] at hi
  cases hi
  exact ⟨v,by rw [List.getElem?_set_self hj],h⟩
 ·rw [List.getElem?_set_ne (Ne.symm q)] at hi
  obtain ⟨u,h1,h2⟩:=r i e hi
  exact ⟨u,by rw [List.getElem?_set_ne (Ne.symm q)];exact h1,h2⟩
theorem zV {α:Type}:∀ (js:List Nat) (vs:List α) (σ:List (Option α)),(bN js vs σ).length=σ.length
 |[],_,_=>rfl
 |_::_,[],_=>rfl
 |j::js,v::vs,σ => by
  show (bN js vs (σ.set j (some v))).length=_
  rw [zV js vs,List.length_set]
theorem cj.bN {K:PySem.W.Frag}{G:Hp}:∀ {js:List Nat} {ds:List Dv} {vs:List V} {ρ:En} {σ:St},(∀ j ∈ js,j < σ.length)->aO K G ds vs->cj K G ρ σ->cj K G (L2.bN js (ds.map .fz) ρ) (L2.bN js vs σ)
 |[],_,_,_,_,_,_,r=>r
 |_::_,[],_,_,_,_,h,r=>by rw [show _=[] from h];exact r
 |j::js,d::ds,_,ρ,σ,hj,⟨x,q,h1,h2,h3⟩,r=>by
  subst h1
  exact cj.bN (js:=js) (ds:=ds) (ρ:=ρ.set j (some (.fz d))) (fun i hi=>by rw [List.length_set];exact hj i (.tail _ hi)) h3 (r.set (hj j (.head _)) h2)
section
variable {ι:Type}
def bJ (F:aY ι)(tg iter:Expr)(ρ:En)(its:List Dv):Prop:=∃ wi:TI,(∀ i,PI (F.cx i) tg iter wi)/\∀ σ G H (R:It->Hp->Prop),ai G H->cj F.K G ρ σ->(∀ J G' H',Step G H G' H'->Ec F.K G' J its->R J H')->wi σ H R
def Dy (F:aY ι)(tg iter:Expr)(ρ:En)(its:List Dv):Prop:=∃ wi:TI,(∀ i,PI (F.cx i) tg iter wi)/\∀ σ G H fp (R:It->Hp->Prop),ai G H->aJ F.K G H ρ σ fp->(∀ a ∈ fp,G a=none)->(∀ J G' H',Step G H G' H'->Ec F.K G' J its->R J H')->wi σ H R
def jD (F:aY ι)(tg:Expr)(js:List Nat)(sp:Dv->Option (List Dv)):Prop:=∃ g:TG,(∀ i,PG (F.cx i) tg g)/\∀ d dd v σ G H Q,sp d=some dd->ai G H->Hv F.K G d v->(∀ vs,aO F.K G dd vs->Q (bN js vs σ) H)->g v σ H Q
def uS (F:aY ι)(bA:List Stmt):TS:=fun D σ H=>∃ τ:TS,(∀ i,cL (F.cx i) bA τ)/\τ D σ H
theorem M9 {F:aY ι}{bA:List Stmt}(i : ι):cL (F.cx i) bA (uS F bA):=fun pins s σ H D I ⟨τ,h,q⟩=>h i pins s σ H D I q
def uT (F:aY ι)(e:Expr):TT:=fun σ H Q=>∃ τ:TT,(∀ i,PT (F.cx i) e τ)/\τ σ H Q
theorem Zi {F:aY ι}{e:Expr}(i : ι):PT (F.cx i) e (uT F e):=fun pins s σ H D I ⟨τ,h,q⟩=>h i pins s σ H D I q
def uE (F:aY ι)(e:Expr):TE:=fun σ H Q=>∃ τ:TE,(∀ i,PE (F.cx i) e τ)/\τ σ H Q
theorem wz {F:aY ι}{e:Expr}(i : ι):PE (F.cx i) e (uE F e):=fun pins s σ H D I ⟨τ,h,q⟩=>h i pins s σ H D I q
variable {F:aY ι}{e a b c tg iter elt:Expr}{es:List Expr}{ρ ρ1:En}{t ta:Tr}{ts:List Tr}{pos:Pos}{o:Out}{body:List Stmt}{its:List Dv}{js:List Nat}{sp:Dv->Option (List Dv)}
theorem bJ.s (h:bJ F tg iter ρ its):Dy F tg iter ρ its:=let ⟨w,x,y⟩:=h;⟨w,x,fun σ G H fp R s r _ k=>y σ G H R s r.qO k⟩
theorem cm (j:Nat){x:Str}(hN:∀ i,(F.cx i).N.Nodup)(hi:∀ i,(F.cx i).N[j]?=some x:=by intro _;rfl)(hx:∀ i,Loc (F.cx i).env.scope x:=by intro _;first | exact Or.inl rfl | exact Or.inr rfl)(hf:∀ i,(F.cx i).fn x=true\/(F.cx i).env.scope.names.lookup x=some .local:=by intro _;first | exact .inl rfl | exact .inr rfl):jD F (.Name x pos) [j] (fun d=>some [d]) :=
 ⟨cZ j,fun i=>jU (hN i) (hi i) (hx i) (hf i),fun d dd v σ G H Q e s h k=>by
  cases e
  exact k [v] ⟨v,[],rfl,h,rfl⟩⟩
def CG (n:Nat):Dv->Option (List Dv)
 | .tup ds=>if ds.length=n then some ds else none
 |_=>none
theorem dD {xs:List Dv}(ha:Ev F e ρ ta)(ea:er ta=.lst xs):bJ F tg e ρ xs:=by
 obtain ⟨τ,p,q⟩:=ha.use
 refine ⟨sR F.K τ,fun i=>F.hK i ▸ A9 (p i),fun σ G H R s r k=>q σ G H _ s r fun x G1 H1 s1 hx=>?_⟩
 rw [ea] at hx
 obtain ⟨l,vs,rfl,h1,h2⟩:=hx
 refine ⟨l,rfl,⟨vs,s1.s.seq h1⟩,k _ G1 H1 s1 fun j G2 H2 sg sh=>⟨fun d hd=>?_,fun hz=>⟨vs,(sg.trans sh).seq h1,by rw [<- h2.length,hz];exact Nat.le_refl _⟩⟩⟩
 obtain ⟨v,q1,q2⟩:=h2.get hd
 refine ⟨⟨vs,v,(sg.trans sh).seq h1,q1⟩,?_⟩
 rintro x H3 ⟨rfl,hx⟩
 have:=hx vs ((sg.trans sh).seq h1)
 rw [q1] at this
 cases this
 exact ⟨G2,.refl sh,q2.mono sg⟩
abbrev iz (lo:Int)(n:Nat):List Dv:=(List.range n).map fun k=>di (lo+(k:Nat))
theorem Wc {K:PySem.W.Frag}{G:Hp}(lo:Int)(n:Nat):Ec K G (nV lo n) (iz lo n):=fun k G1 H1 sg sh=>by
 refine ⟨fun d hd=>?_,fun hz=>by show n<=k;rw [hz];simp⟩
 rw [List.getElem?_map] at hd
 rcases Nat.lt_or_ge k n with hk | hk
 ·rw [List.getElem?_range hk] at hd
  cases hd
  refine ⟨hk,?_⟩
  rintro x H3 ⟨rfl,rfl⟩
  exact ⟨G1,.refl sh,rfl,rfl⟩
 ·rw [List.getElem?_eq_none (by simpa using hk)] at hd;cases hd
theorem iS {n:Int}(hm:F.mg "range" = none)(ha:Ev F a ρ (ti n))(hb : -(2 ^ 62)<=n/\n<2 ^ 62){p:Pos}(hg:∀ i,Gl (F.cx i) "range" := by intro _;rfl)(hs:∀ i,starEach [a] (F.cx i).env=[(false,eval a (F.cx i).env)]:=by intro _;rfl):bJ F tg (.Call (.Name "range" p) [a] [] pos) ρ (iz 0 n.toNat):=by
 obtain ⟨τ,p,q⟩:=ha.use
 refine ⟨wo (bY τ cI),fun i=>IV (hg i) ((F.hm i).symm ▸ hm) (aF (p i) bu (hs i)) (hs i),fun σ G H R s r k=>q σ G H _ s r fun x G1 H1 s1 hx=>?_⟩
 exact ⟨n,by rw [bf hx],hb.1,hb.2,k _ G1 H1 s1 (Wc 0 n.toNat)⟩
theorem N3 {js:List Nat}{n:Nat}(h:js.all (fun j=>Nat.blt j n)=true):∀ j ∈ js,j<n:=fun j hj=>Nat.le_of_ble_eq_true (List.all_eq_true.mp h j hj)
theorem wX {i : ι}(hx:(F.cx i).xe=cv):PassesOwn (model (F.cx i).prog (F.cx i).w) (F.cx i).A (F.cx i).env (F.cx i).xe:=by rw [hx];exact PassesOwn.never
theorem Tt (hi:Dy F tg iter ρ its)(hg:jD F tg js sp)(inv:Nat->En)(m:Nat)(hm:m<=its.length)(h0:inv 0=ρ)(hlen:∀ k,js.all (fun j=>Nat.blt j (inv k).length)=true)(step:∀ k d,k<m->its[k]?=some d->∃ dd qP,sp d=some dd/\bC F body (bN js (dd.map .fz) (inv k)) (.nx qP)/\Fg qP (inv (k+1)))(fin:(m=its.length/\o=.nx (inv m))\/∃ d dd t,its[m]?=some d/\sp d=some dd/\bC F body (bN js (dd.map .fz) (inv m)) (.rt t)/\o=.rt t)(hx:∀ i,(F.cx i).xe=cv:=by intro _;rfl)(hs:∀ i x,foldedSetIterable iter (F.cx i).env x=pure x:=by intro _ _;rfl):Rn F (.For tg iter body [] pos) ρ o:=by
 obtain ⟨wi,p,q⟩:=hi
 obtain ⟨g,pg,qg⟩:=hg
 subst h0
 refine ⟨qu wi g (uS F body),fun i=>BF (wX (hx i)) (F.calm i) (p i) (pg i) (M9 i) (hs i),fun D σ G0 H0 G H r k=>?_⟩
 obtain ⟨fp,r⟩:=r
 refine q σ G H fp _ r.st.s r.own r.g fun J G1 H1 s1 it=>?_
 have r1:du F.K G0 H0 G1 H1 (inv 0) σ fp:=⟨r.st.trans s1,r.own.mono s1.g s1.h,r.own.off s1 r.g,r.n,r.d⟩
 have kb:=k.under r1.base
 refine ⟨fun k m' az H'=>m'=its.length-k/\k<=m/\∃ G',RS F.K G1 (less H1 fp) G' H' (inv k) az,⟨_,rfl,Nat.zero_le _,G1,fp,r1.rebase⟩,?_⟩
 rintro n m' az H' ⟨rfl,hn,G',r'⟩
 obtain ⟨iL,r'⟩:=r'
 obtain ⟨i1,i2⟩:=it n G' H' r'.st.g r'.st.s
 by_cases aZ:n<m
 ·have hd:its[n]?=some its[n]:=List.getElem?_eq_getElem (by omega)
  obtain ⟨j1,j2⟩:=i1 _ hd
  refine .inr ⟨j1,fun bp H2=>∃ G2,RS F.K G1 (less H1 fp) G2 H2 (inv (n+1)) bp,fun bp H2 z=>⟨its.length-(n+1),by omega,rfl,aZ,z⟩,fun x H3 y=>?_⟩
  obtain ⟨G3,s3,h3⟩:=j2 x H3 y
  obtain ⟨dd,qP,e1,⟨τ,pb,qb⟩,e2⟩:=step n _ aZ hd
  refine qg _ dd x az G3 H3 _ e1 s3.s h3 fun vs uk=>⟨τ,pb,qb _ _ G1 (less H1 fp) G3 H3 (RS.bN (N3 (hlen n)) uk ⟨iL,r'.st.trans s3,r'.own.mono s3.g s3.h,fun a ha=>?_,r'.n,r'.d⟩) fun σ4 G4 H4 r4=>⟨G4,e2.rs r4⟩⟩
  cases q:G3 a with
  |none=>rfl
  |some u =>
   obtain ⟨u',bh⟩:=r'.own.there a ha
   have:=s3.n a (r'.g a ha) (by rw [q];exact fun z=>nomatch z)
   rw [bh] at this;cases this
 ·have en:n=m:=by omega
  subst en
  rcases fin with ⟨e,rfl⟩ | ⟨d,dd,t,hd,e1,⟨τ,pb,qb⟩,rfl⟩
  ·refine .inl ⟨i2 e,kb az G' H' ⟨iL,r'⟩⟩
  ·obtain ⟨j1,j2⟩:=i1 d hd
   refine .inr ⟨j1,fun _ _=>False,fun _ _ z=>z.elim,fun x H3 y=>?_⟩
   obtain ⟨G3,s3,h3⟩:=j2 x H3 y
   refine qg d dd x az G3 H3 _ e1 s3.s h3 fun vs uk=>⟨τ,pb,qb _ _ G1 (less H1 fp) G3 H3 (RS.bN (N3 (hlen n)) uk ⟨iL,r'.st.trans s3,r'.own.mono s3.g s3.h,fun a ha=>?_,r'.n,r'.d⟩) kb⟩
   cases q:G3 a with
   |none=>rfl
   |some u =>
    obtain ⟨u',bh⟩:=r'.own.there a ha
    have:=s3.n a (r'.g a ha) (by rw [q];exact fun z=>nomatch z)
    rw [bh] at this;cases this
theorem jk (hi:Dy F tg iter ρ its)(hg:jD F tg js sp)(inv:Nat->En)(h0:inv 0=ρ)(hlen:∀ k,js.all (fun j=>Nat.blt j (inv k).length)=true)(step:∀ k d,its[k]?=some d->∃ dd qP,sp d=some dd/\bC F body (bN js (dd.map .fz) (inv k)) (.nx qP)/\Fg qP (inv (k+1)))(hx:∀ i,(F.cx i).xe=cv:=by intro _;rfl)(hs:∀ i x,foldedSetIterable iter (F.cx i).env x=pure x:=by intro _ _;rfl):Rn F (.For tg iter body [] pos) ρ (.nx (inv its.length)) :=
 Tt hi hg inv its.length (Nat.le_refl _) h0 hlen (fun k d _ h=>step k d h) (.inl ⟨rfl,rfl⟩) hx hs
theorem U8 (inv:Nat->En)(n:Nat)(h0:inv 0=ρ)(turn:∀ k,k<n->cX F c (inv k) true/\bC F body (inv k) (.nx (inv (k+1))))(stop:cX F c (inv n) false)(hx:∀ i,(F.cx i).xe=cv:=by intro _;rfl):Rn F (.While c body [] pos) ρ (.nx (inv n)):=by
 subst h0
 refine ⟨LA (uT F c) (uS F body),fun i=>UQ (wX (hx i)) (Zi i) (M9 i),fun D σ G0 H0 G H r k=>?_⟩
 refine ⟨fun m' az H'=>∃ j G',j<=n/\m'=n-j/\RS F.K G0 H0 G' H' (inv j) az,⟨_,0,G,Nat.zero_le _,rfl,r⟩,?_⟩
 rintro m' az H' ⟨j,G',hj,rfl,fp,r'⟩
 have key:∀ {G1 H1:Hp},Step G' H' G1 H1->RS F.K G0 H0 G1 H1 (inv j) az:=fun {G1 H1} s1=>⟨fp,r'.st.trans s1,r'.own.mono s1.g s1.h,r'.own.off s1 r'.g,r'.n,r'.d⟩
 by_cases aZ:j<n
 ·obtain ⟨⟨τ,x,y⟩,⟨bK,x',y'⟩⟩:=turn j aZ
  refine ⟨τ,x,y az G' H' fp _ r'.st.s r'.own r'.g fun G1 H1 s1=>i6 ⟨fun bp H2=>∃ G2,RS F.K G0 H0 G2 H2 (inv (j+1)) bp,fun bp H2 ⟨G2,z⟩=>⟨n-(j+1),by omega,j+1,G2,aZ,rfl,z⟩,bK,x',?_⟩⟩
  exact y' _ az G0 H0 G1 H1 (key s1) fun σ4 G4 H4 r4=>⟨G4,r4⟩
 ·have e:j=n:=by omega
  subst e
  obtain ⟨τ,x,y⟩:=stop
  exact ⟨τ,x,y az G' H' fp _ r'.st.s r'.own r'.g fun G1 H1 s1=>kg (k az G1 H1 (key s1))⟩
theorem zL {α:Type}(S : α->En)(Pp : α->Prop)(p : α->Bool)(μ : α->Nat)(hc:∀ a,Pp a->cX F c (S a) (p a))(hb:∀ a,Pp a->p a=true->∃ a',Pp a'/\μ a' < μ a/\bC F body (S a) (.nx (S a')))(a0 : α)(h0:Pp a0)(hx:∀ i,(F.cx i).xe=cv:=by intro _;rfl):∃ a',Pp a'/\p a'=false/\Rn F (.While c body [] pos) (S a0) (.nx (S a')):=by
 have:∀ (m:Nat) (a : α),μ a<=m->Pp a->∃ (n:Nat) (f:Nat->α),f 0=a/\(∀ k,k<n->Pp (f k)/\p (f k)=true/\bC F body (S (f k)) (.nx (S (f (k+1)))))/\Pp (f n)/\p (f n)=false:=by
  intro m
  induction m with
  |zero =>
   intro a hm ha
   cases hp:p a with
   |false=>exact ⟨0,fun _=>a,rfl,fun k hk=>absurd hk (Nat.not_lt_zero _),ha,hp⟩
   |true =>
    obtain ⟨a',_,h2,_⟩:=hb a ha hp
    omega
  |succ m ih =>
   intro a hm ha
   cases hp:p a with
   |false=>exact ⟨0,fun _=>a,rfl,fun k hk=>absurd hk (Nat.not_lt_zero _),ha,hp⟩
   |true =>
    obtain ⟨a',h1,h2,h3⟩:=hb a ha hp
    obtain ⟨n,f,f0,f1,f2,f3⟩:=ih a' (by omega) h1
    refine ⟨n+1,fun k=>match k with | 0=>a | k+1=>f k,rfl,fun k hk=>?_,f2,f3⟩
    cases k with
    |zero=>exact ⟨ha,hp,by show bC F body (S a) (.nx (S (f 0)));rw [f0];exact h3⟩
    |succ k=>exact f1 k (by omega)
 obtain ⟨n,f,f0,f1,f2,f3⟩:=this (μ a0) a0 (Nat.le_refl _) h0
 refine ⟨f n,f2,f3,U8 (fun k=>S (f k)) n (by rw [f0]) (fun k hk=>?_) (by have:=hc _ f2;rw [f3] at this;exact this) hx⟩
 obtain ⟨g1,g2,g3⟩:=f1 k hk
 exact ⟨by have:=hc _ g1;rw [g2] at this;exact this,g3⟩
structure Z2 where
 C:Addr
 s:Shared
 H:Hp
 ex:List Addr
 pn:List (Addr×Obj)
def cH (F:aY ι)(own:List Str)(fr:List Nat)(sc:Scope)(cl : ι->List (Str×Addr)):aY (ι×Z2) where
 cx i:=bU (F.cx i.1) own fr sc (cl i.1) i.2.C i.2.s i.2.H i.2.ex i.2.pn
 P:=F.P
 w:=F.w
 K:=F.K
 mg:=F.mg
 base:=F.base
 room:=F.room
 hP i:=F.hP i.1
 hw i:=F.hw i.1
 hK i:=F.hK i.1
 hm i:=F.hm i.1
 hb i:=F.hb i.1
 hr i:=F.hr i.1
 calm i:=F.calm i.1
def cC (own:List Str)(fr:List Nat)(ρ:En):En:=own.map (fun _=>none)++fr.map fun j=>(ρ[j]?).join
theorem Yc {K:PySem.W.Frag}{G:Hp}{own:List Str}{fr:List Nat}{ρ:En}{σ:St}(r:cj K G ρ σ):cj K G (cC own fr ρ) (so own fr σ):=fun i d h=>by
 unfold cC at h
 unfold so
 by_cases hi:i<own.length
 ·rw [List.getElem?_append_left (by simpa using hi),List.getElem?_map] at h
  cases q:own[i]? with
  |none=>rw [q] at h;cases h
  |some z=>rw [q] at h;cases h
 ·rw [List.getElem?_append_right (by simpa using hi),List.getElem?_map,List.length_map] at h
  rw [List.getElem?_append_right (by simpa using hi),List.getElem?_map,List.length_map]
  cases q:fr[i-own.length]? with
  |none=>rw [q] at h;cases h
  |some j =>
   rw [q] at h
   have h':(ρ[j]?).join=some (.fz d):=Option.some.inj h
   have hj : ρ[j]?=some (some (.fz d)):=by
    cases q2 : ρ[j]? with
    |none=>rw [q2] at h';cases h'
    |some o=>rw [q2] at h';exact congrArg some h'
   obtain ⟨v,h1,h2⟩:=r j d hj
   refine ⟨v,?_,h2⟩
   show some ((σ[j]?).join)=_
   rw [h1]
   rfl
def El {κ:Type}(F:aY κ)(ifs:List Expr)(ρ:En)(b:Bool):Prop:=∃ tt:TT,(∀ i (pins:List (Addr×Obj)) (s1:Shared) (aA:St) (H1:Hp) (Q:Bool->Hp->Prop),Inv (F.cx i) pins aA H1 s1->tt aA H1 Q ->
   wpAny (model (F.cx i).prog (F.cx i).w) (F.cx i).A (jV ifs (F.cx i).env) (TP (F.cx i) pins aA Q) cv s1)/\∀ σ G H Q,ai G H->cj F.K G ρ σ->(∀ G' H',Step G H G' H'->Q b H')->tt σ H Q
theorem v7:El F [] ρ true:=⟨vD,fun i pins s1 aA H1 Q I h=>M3 pins s1 aA H1 Q I h,fun σ G H Q s r k=>k G H (.refl s)⟩
theorem j6 {p:Bool}(h:Et F c ρ p)(hx:∀ i,(F.cx i).xe=cv:=by intro _;rfl):El F [c] ρ p:=let ⟨τ,x,y⟩:=h;⟨τ,fun i pins s1 aA H1 Q I h=>M4 (x i) (hx i) pins s1 aA H1 Q I h,y⟩
def uL {κ:Type}(F:aY κ)(ifs:List Expr):TT:=fun σ H Q=>∃ tt:TT,(∀ i (pins:List (Addr×Obj)) (s1:Shared) (aA:St) (H1:Hp) (Q:Bool->Hp->Prop),Inv (F.cx i) pins aA H1 s1->tt aA H1 Q ->
   wpAny (model (F.cx i).prog (F.cx i).w) (F.cx i).A (jV ifs (F.cx i).env) (TP (F.cx i) pins aA Q) cv s1)/\tt σ H Q
def xK (F:aY ι)(own:List Str)(fr:List Nat)(sc:Scope)(cl : ι->List (Str×Addr))(elt tg iter:Expr)(ifs:List Expr)(τ:TE):Prop:=∃ wi g tt te,τ=qK wi g tt te own fr/\(∀ i,PI (F.cx i) tg iter wi)/\(∀ i,PG ((cH F own fr sc cl).cx i) tg g) /\
 (∀ i (pins:List (Addr×Obj)) (s1:Shared) (aA:St) (H1:Hp) (Q:Bool->Hp->Prop),Inv ((cH F own fr sc cl).cx i) pins aA H1 s1->tt aA H1 Q->wpAny (model ((cH F own fr sc cl).cx i).prog ((cH F own fr sc cl).cx i).w) ((cH F own fr sc cl).cx i).A (jV ifs ((cH F own fr sc cl).cx i).env) (TP ((cH F own fr sc cl).cx i) pins aA Q) cv s1) /\
 ∀ i,PE ((cH F own fr sc cl).cx i) elt te
def fh (F:aY ι)(own:List Str)(fr:List Nat)(sc:Scope)(cl : ι->List (Str×Addr))(elt tg iter:Expr)(ifs:List Expr)(ρ:En)(t:Tr):Prop:=∃ τ,xK F own fr sc cl elt tg iter ifs τ/\∀ σ G H Q,ai G H->cj F.K G ρ σ->Kv F.K G H t Q->τ σ H Q
theorem xM {ifs:List Expr}{sc:Scope}{own:List Str}{fr:List Nat}{cl : ι->List (Str×Addr)}(hi:bJ F tg iter ρ its)(hg:jD (cH F own fr sc cl) tg js sp)(jE:∀ j ∈ js,j<own.length)(p:Nat->Bool)(f:Nat->Tr)(hz:its.length<sizeLine)(step:∀ k d,its[k]?=some d->∃ dd,sp d=some dd/\El (cH F own fr sc cl) ifs (bN js (dd.map .fz) (cC own fr ρ)) (p k)/\(p k=true->Ev (cH F own fr sc cl) elt (bN js (dd.map .fz) (cC own fr ρ)) (f k)))(iY:∀ dd:List Dv,hU js (bN js (dd.map .fz) (cC own fr ρ))=cC own fr ρ):fh F own fr sc cl elt tg iter ifs ρ (.ow (((List.range its.length).filter p).map f)):=by
 obtain ⟨wi,pi,qi⟩:=hi
 obtain ⟨g,pg,qg⟩:=hg
 refine ⟨_,⟨wi,g,uL (cH F own fr sc cl) ifs,uE (cH F own fr sc cl) elt,rfl,pi,pg,fun i pins s1 aA H1 Q I h=>by
   obtain ⟨tt,h1,h2⟩:=h
   exact h1 i pins s1 aA H1 Q I h2,fun i=>wz i⟩,fun σ G H Q s r k=>?_⟩
 refine qi σ G H _ s r fun J G1 H1 s1 it acc dg=>?_
 have k1:=k.step s1
 have LY:∀ {G':Hp} {js':List Nat} {ρ':En} {az:St},cj F.K G' ρ' az->cj F.K G' (hU js' ρ') az:=by
  intro G' js'
  induction js' with
  |nil=>intro ρ' az z;exact z
  |cons j js' ih =>
   intro ρ' az z
   refine ih (ρ':=ρ'.set j none) fun i d hd=>?_
   by_cases q:j=i
   ·subst q
    rw [List.getElem?_set] at hd
    simp at hd
   ·rw [List.getElem?_set_ne q] at hd
    exact z i d hd
 refine ⟨fun i m ys aA H2=>m=its.length-i/\i<=its.length/\aA.length=own.length+fr.length/\H2 acc=some (.lst ys)/\∃ G2 fq,Step G1 H1 G2 H2/\aG F.K G2 H2 (((List.range i).filter p).map f) ys fq/\Nw H1 G2 (acc::fq)/\cj F.K G2 (cC own fr ρ) aA,
  ⟨_,rfl,Nat.zero_le _,by simp [so],bE,G1,[],.gO s1.s dg,⟨rfl,rfl⟩,⟨fun a ha=>by rw [List.mem_singleton.mp ha];exact dg,fun a ha=>by rw [List.mem_singleton.mp ha];exact s1.s.free dg,by simp⟩,(Yc r).mono s1.g⟩,?_⟩
 rintro i m ys aA H2 ⟨rfl,hi,qQ,ku,G2,fq,s2,o2,w2,r2⟩
 have hlen:ys.length<sizeLine:=by
  rw [<- o2.length,List.length_map]
  have:=List.length_filter_le p (List.range i)
  rw [List.length_range] at this
  omega
 refine ⟨ku,hlen,?_⟩
 obtain ⟨i1,i2⟩:=it i G2 H2 s2.g s2.s
 by_cases aZ:i<its.length
 ·have hd:its[i]?=some its[i]:=List.getElem?_eq_getElem aZ
  obtain ⟨j1,j2⟩:=i1 _ hd
  obtain ⟨dd,e1,el,ev⟩:=step i _ hd
  refine .inr ⟨j1,fun zs bp H3=>bp.length=own.length+fr.length/\H3 acc=some (.lst zs)/\∃ G3 fq,Step G1 H1 G3 H3/\aG F.K G3 H3 (((List.range (i+1)).filter p).map f) zs fq/\Nw H1 G3 (acc::fq)/\cj F.K G3 (cC own fr ρ) bp,
   fun zs bp H3 z=>⟨its.length-(i+1),by omega,rfl,aZ,z⟩,fun x H3 y=>?_⟩
  obtain ⟨G3,s3,h3⟩:=j2 x H3 y
  refine qg _ dd x aA G3 H3 _ e1 s3.s h3 fun vs uk=>?_
  have hjl:∀ j ∈ js,j<aA.length:=fun j hj=>by have:=jE j hj;omega
  have rr:cj F.K G3 (bN js (dd.map .fz) (cC own fr ρ)) (bN js vs aA):=cj.bN hjl uk (r2.mono s3.g)
  have wA:∀ {Ga Ha Gb Hb:Hp} {fs:List Addr},Step Ga Ha Gb Hb->(∀ a ∈ fs,Ga a=none)->(∀ a ∈ fs,∃ o,Ha a=some o)->∀ a ∈ fs,Gb a=none:=fun {Ga Ha Gb Hb fs} st h1 h2 a ha=>by
   cases q:Gb a with
   |none=>rfl
   |some u =>
    obtain ⟨u',bh⟩:=h2 a ha
    have:=st.n a (h1 a ha) (by rw [q];exact fun z=>nomatch z)
    rw [bh] at this;cases this
  have qR:∀ a ∈ acc::fq,∃ o,H2 a=some o:=fun a ha=>(List.mem_cons.mp ha).elim (fun z=>⟨_,z ▸ ku⟩) (o2.there a)
  have er:(List.range (i+1)).filter p=(List.range i).filter p++if p i=true then [i] else []:=by
   rw [List.range_succ,List.filter_append]
   congr 1
   simp only [List.filter_cons,List.filter_nil]
  obtain ⟨tt,pt,qt⟩:=el
  refine ⟨tt,pt,qt _ G3 H3 _ s3.s rr fun G5 H5 s5=>?_⟩
  have mP:=s3.trans s5
  cases hp:p i with
  |false =>
   refine kg ⟨by rw [zV];exact qQ,mP.h _ _ ku,G5,fq,s2.trans mP,?_,⟨w2.n,wA mP w2.g qR,w2.d⟩,?_⟩
   ·rw [er,hp,if_neg (by decide),List.append_nil]
    exact o2.mono mP.g mP.h
   ·have:=LY (js':=js) (rr.mono s5.g)
    rwa [iY dd] at this
  |true =>
   obtain ⟨te,pe,qe⟩:=ev hp
   refine i6 ⟨te,pe,qe _ G5 H5 _ s5.s (rr.mono s5.g) fun v G6 H6 f6 s6 o6 w6=>?_⟩
   have n8:=mP.trans s6
   have Ed:=n8.h _ _ ku
   have oh:∀ a ∈ f6,a ∉ acc::fq:=fun a ha hb=>by
    obtain ⟨u,hu⟩:=qR a hb
    have:=mP.h _ _ hu
    rw [w6.n a ha] at this;cases this
   have lh:=List.nodup_cons.mp w2.d
   have g6:=wA n8 w2.g qR
   refine ⟨Ed,by rw [zV];exact qQ,bE,G6,fq++(f6++[]),⟨(s2.trans n8).g,fun b u hb=>?_,fun b u hb=>?_,(s2.trans n8).n⟩,?_,⟨fun a ha=>?_,fun a ha=>?_,?_⟩,?_⟩
   ·rw [aP fun z=>by subst z;rw [dg] at hb;cases hb]
    exact (s2.trans n8).h b u hb
   ·rw [aP fun z=>by subst z;rw [g6 _ (.head _)] at hb;cases hb]
    exact s6.s b u hb
   ·rw [er,hp,if_pos rfl,List.map_append]
    refine aG.append ((o2.mono n8.g n8.h).frame lh.1) ⟨v,[],f6,[],rfl,rfl,o6.frame fun z=>oh _ z (.head _),rfl,rfl⟩
   ·rw [List.append_nil] at ha
    rcases List.mem_cons.mp ha with z | z
    ·exact w2.n a (z ▸ .head _)
    ·rcases List.mem_append.mp z with z | z
     ·exact w2.n a (.tail _ z)
     ·exact (s2.trans mP).h.free (w6.n a z)
   ·rw [List.append_nil] at ha
    rcases List.mem_cons.mp ha with z | z
    ·exact g6 a (z ▸ .head _)
    ·rcases List.mem_append.mp z with z | z
     ·exact g6 a (.tail _ z)
     ·exact w6.g a z
   ·rw [List.append_nil]
    refine List.nodup_cons.mpr ⟨fun z=>?_,List.nodup_append.mpr ⟨lh.2,w6.d,fun a ha b hb z=>?_⟩⟩
    ·rcases List.mem_append.mp z with z | z
     ·exact lh.1 z
     ·exact oh _ z (.head _)
    ·subst z;exact oh a hb (.tail _ ha)
   ·have:=LY (js':=js) (rr.mono (s5.trans s6).g)
    rwa [iY dd] at this
 ·have e:i=its.length:=by omega
  subst e
  refine .inl ⟨i2 rfl,k1 (.ref acc) G2 H2 (acc::fq) s2 ⟨acc,ys,fq,rfl,ku,o2,rfl⟩ w2⟩
theorem sW {ifs:List Expr}{sc:Scope}{own:List Str}{fr:List Nat}{cl : ι->List (Str×Addr)}(L:∀ i,hJ (F.cx i) sc (cl i) fr)(hi:bJ F tg iter ρ its)(hg:jD (cH F own fr sc cl) tg js sp)(jE:∀ j ∈ js,j<own.length)(p:Nat->Bool)(f:Nat->Tr)(hz:its.length<sizeLine)(step:∀ k d,its[k]?=some d->∃ dd,sp d=some dd/\El (cH F own fr sc cl) ifs (bN js (dd.map .fz) (cC own fr ρ)) (p k)/\(p k=true->Ev (cH F own fr sc cl) elt (bN js (dd.map .fz) (cC own fr ρ)) (f k)))(iY:∀ dd:List Dv,hU js (bN js (dd.map .fz) (cC own fr ρ))=cC own fr ρ)(hs:∀ i x,foldedSetIterable iter (F.cx i).env x=pure x:=by intro _ _;rfl) :
  Ev F (.ListComp elt [⟨tg,iter,ifs,0⟩] sc pos) ρ (.ow (((List.range its.length).filter p).map f)):=by
 obtain ⟨τ,⟨wi,g,tt,te,rfl,h1,h2,h3,h4⟩,h5⟩:=xM (ifs:=ifs) hi hg jE p f hz step iY
 exact ⟨_,fun i=>M0 (cl:=cl i) (L i) (F.calm i) (h1 i) (fun C s H ex pn=>h2 (i,⟨C,s,H,ex,pn⟩)) (fun C s H ex pn=>h3 (i,⟨C,s,H,ex,pn⟩)) (fun C s H ex pn=>h4 (i,⟨C,s,H,ex,pn⟩)) (hs i),h5⟩
end
structure qS (k:Nat) (qual:Str) (sc:Scope) (f:Addr) where
 aU:Value
 A:Around
 outer:List Env
 s:Shared
 H:Hp
 E:XK
 hr:cQ k (A.deeper (envOfC qual sc s.heap.objs.size f aU))
def bB (P:Program)(w:World)(K:PySem.W.Frag)(mg:Str->Option Value)(base:Heap)(N:List Str)(qual:Str)(sc:Scope)(f:Addr)(k:Nat):aY (qS k qual sc f) where
 cx i:=(cJ ao P w K mg base N qual sc f i.aU i.A i.outer i.s i.H i.E).e8
 P:=P
 w:=w
 K:=K
 mg:=mg
 base:=base
 room:=k
 hP _:=rfl
 hw _:=rfl
 hK _:=rfl
 hm _:=rfl
 hb _:=rfl
 hr i:=i.hr
 calm _:=rfl
def xN (N:List Str)(dd:List Dv):En:=dd.map (fun d=>some (.fz d))++List.replicate (N.length-dd.length) none
theorem JG {K:PySem.W.Frag}{G H:Hp}:∀ n:Nat,aJ K G H (List.replicate n none) (List.replicate n none) []
 |0=>⟨rfl,rfl⟩
 |n+1=>⟨none,List.replicate n none,rfl,JG n⟩
theorem Ae {K:PySem.W.Frag}{G H:Hp}{n:Nat}:∀ {dd:List Dv} {vs:List V},aO K G dd vs->aJ K G H (dd.map (fun d=>some (.fz d))++List.replicate n none) (vs.map some++List.replicate n none) []
 |[],_,h=>by rw [show _=[] from h];exact JG n
 |_::_,_,⟨x,r,h1,h2,h3⟩=>by subst h1;exact ⟨x,_,[],[],rfl,rfl,⟨rfl,h2⟩,Ae h3⟩
theorem bD {P:Program}{w:World}{K:PySem.W.Frag}{mg:Str->Option Value}{base:Heap}{x qual:Str}{st:Stmt}{dV:Value}{f:Addr}{fd:FuncData}{N ps:List Str}{k:Nat}{R:List Dv->Tr->Prop}(Fd:iw K x qual st dV f fd)(S:bj N ps (ah st))(hl:∀ dd t,R dd t->dd.length=ps.length)(hb:∀ dd t,R dd t->∃ o,(o=.rt t\/(t=tn/\∃ ρ',o=.nx ρ'))/\bC (bB P w K mg base N qual (ah st) f k) (aN st) (xN N dd) o):aM P w K mg base ao (k+1) f fd ps (spT K R):=by
 refine Fd.ok S (fun vs H Q E ⟨G,dd,t,s,h1,h2,h3⟩=>by rw [<- h1.length];exact hl dd t h2) fun aU A outer s H vs Q E hr h=>?_
 obtain ⟨G,dd,t,s',h1,h2,h3⟩:=h
 obtain ⟨o,ho,τ,x,y⟩:=hb dd t h2
 refine ⟨τ,x ⟨aU,A,outer,s,H,E,hr⟩,y _ (start N vs) G H G H ⟨[],.refl s',?_,fun _ z=>(nomatch z),fun _ z=>(nomatch z),.nil⟩ ?_⟩
 ·unfold start xN
  rw [<- h1.length]
  exact Ae h1
 ·rcases ho with rfl | ⟨rfl,ρ',rfl⟩
  ·exact fun v G1 H1 fq s1 o1 w1=>h3 v G1 H1 fq s1 o1 w1
  ·exact fun σ G1 H1 ⟨fp,r⟩=>h3 .aS G1 H1 [] r.st ⟨rfl,rfl,rfl⟩ .nil
def PY (K:PySem.W.Frag)(l1 l2:Addr)(xs ys:List V):It :=
 ⟨fun i H=>aH K H l1 xs/\aH K H l2 ys/\i<min xs.length ys.length,fun i H x H'=>∃ T vx vy,H T=none/\xs[i]?=some vx/\ys[i]?=some vy/\x=.ref T/\H'=upd H T (.tup [vx,vy]),fun i H=>aH K H l1 xs/\aH K H l2 ys/\i=min xs.length ys.length⟩
def PZ (K:PySem.W.Frag)(l:Addr)(xs:List V):It :=
 ⟨fun i H=>aH K H l xs/\i<xs.length,fun i H x H'=>∃ T v,H T=none/\xs[i]?=some v/\x=.ref T/\H'=upd H T (.tup [.int (i:Nat),v]),fun i H=>aH K H l xs/\i=xs.length⟩
section
variable {X:Cx}{pins:List (Addr×Obj)}{σ:St}{H:Hp}{s:Shared}
theorem Inv.Bg {t':Nat}{fs:List Addr}{h':Heap}(I:Inv X pins σ H s)(k:∀ b o,b ∉ fs->s.heap.get? b=some o->h'.get? b=some o)(hf:∀ b ∈ fs,eZ X pins H b):Inv X pins σ H { s with heap:=h',toks:=t' }:=by
 have mG:∀ b u,H b=some u->b ∉ fs:=fun b u e z=>by rw [(hf b z).1] at e;cases e
 refine I.step (g':=s.gens) (d':=s.drawn) (ch:=fs) (fun b hb=>?_) (fun b o _ _ hc e _=>k b o hc e) (fun b o _ _ hc e _=>⟨o.slots,k b o hc e⟩) (fun _ _ _ _ n=>n)
  (fun b o hc e=>⟨o,k b o hc e⟩) (fun _ _ e=>e) (fun _ _ _ e=>e) (fun b ps e=>⟨#[],by rw [e];simp⟩) (fun m hm=>?_) (fun b u e=>?_) I.bare
 ·obtain ⟨f0,f1,f2,f3,f4,f5⟩:=hf b hb
  exact ⟨f3,f1,f4,f5⟩
 ·obtain ⟨o,es,ep,ho,r⟩:=hm
  exact ⟨o,es,ep,k _ o (fun z=>(hf _ z).2.1 rfl) ho,r⟩
 ·refine (I.av b u e).iq (fun c v hc q=>k c v ?_ q) (fun _ q=>q) fun _ _ q=>q
  rcases hc with z | z
  ·rw [z];exact mG b u e
  ·exact mG c _ z
theorem Inv.KL {t':Nat}{fs:List Addr}{h':Heap}{T:Addr}{vs:List V}(I:Inv X pins σ H s)(k:∀ b o,b ∉ fs->s.heap.get? b=some o->h'.get? b=some o)(hf:∀ b ∈ fs,eZ X pins H b)(hT:s.heap.objs.size<=T)(new:bQ X.prog X.w (upd H T (.tup vs)) h' T (.tup vs)):Inv X pins σ (upd H T (.tup vs)) { s with heap:=h',toks:=t' }:=by
 have hn:H T=none:=I.av.fresh hT
 have mG:∀ b u,H b=some u->b ∉ fs:=fun b u e z=>by rw [(hf b z).1] at e;cases e
 have ne:∀ b o,s.heap.get? b=some o->b ≠ T:=fun b o e z=>by subst z;exact absurd (Nat.lt_of_lt_of_le (Heap.lt_size e) hT) (Nat.lt_irrefl _)
 refine I.step (g':=s.gens) (d':=s.drawn) (ch:=fs) (fun b hb=>?_) (fun b o _ _ hc e _=>k b o hc e) (fun b o _ _ hc e _=>⟨o.slots,k b o hc e⟩) (fun b o _ e n=>by rw [aP (ne b o e)];exact n)
  (fun b o hc e=>⟨o,k b o hc e⟩) (fun _ _ e=>by rw [aP (iR e hn)];exact e) (fun _ _ _ e=>by rw [aP (iR e hn)];exact e) (fun b ps e=>⟨#[],by rw [aP (iR e hn),e];simp⟩) (fun m hm=>?_) (fun b u e=>?_) I.bare
 ·obtain ⟨f0,f1,f2,f3,f4,f5⟩:=hf b hb
  exact ⟨f3,f1,f4,f5⟩
 ·obtain ⟨o,es,ep,ho,r⟩:=hm
  exact ⟨o,es,ep,k _ o (fun z=>(hf _ z).2.1 rfl) ho,r⟩
 ·by_cases hb:b=T
  ·subst hb;rw [bE] at e;cases e;exact new
  ·rw [aP hb] at e
   refine (I.av b u e).iq (fun c v hc q=>k c v ?_ q) (fun c q=>by rw [aP (iR q hn)];exact q) fun c xs q=>by rw [aP (iR q hn)];exact q
   rcases hc with z | z
   ·rw [z];exact mG b u e
   ·exact mG c _ z
end
theorem U9 {P:Program}{w:World}{K:PySem.W.Frag}{elts:List Expr}{kk:Nat}{pos:Pos}{z TI TO i1 i2 l1 l2:Addr}{xs ys:List V}(D:ZipApart z TI TO i1 i2 l1 l2) :
  Turn P w K (.Tuple elts kk pos) (PY K l1 l2 xs ys) [z,TI,TO,i1,i2] z (fun i h=>IsZip h z TI TO .none/\IsPair h TI (.ref i1) (.ref i2)/\(∃ a b,IsPair h TO a b)/\h.IsListIter i1 l1 i/\h.IsListIter i2 l2 i) where
 mem:=by simp
 obj:=by
  rintro i h ⟨h1,h2,⟨a,c,h3⟩,⟨o1,h4,_,h5⟩,⟨o2,h6,_,h7⟩⟩ b hb
  simp only [List.mem_cons,List.not_mem_nil,or_false] at hb
  rcases hb with rfl | rfl | rfl | rfl | rfl
  ·exact ⟨_,h1,fun v z=>by cases z⟩
  ·exact ⟨_,h2,fun v z=>by cases z⟩
  ·exact ⟨_,h3,fun v z=>by cases z⟩
  ·exact ⟨_,h4,fun v z=>by rw [h5] at z;cases z⟩
  ·exact ⟨_,h6,fun v z=>by rw [h7] at z;cases z⟩
 keep:=by
  rintro i h h' ⟨h1,h2,⟨a,c,h3⟩,h4,h5⟩ k
  exact ⟨k _ (by simp) _ h1,k _ (by simp) _ h2,⟨a,c,k _ (by simp) _ h3⟩,h4.at fun o e=>k _ (by simp) o e,h5.at fun o e=>k _ (by simp) o e⟩
 item:=by
  intro X hP hw hK hc i pins s σ H E I hf st hg
  subst hP hw hK
  obtain ⟨jF,um,aZ⟩:=hg
  obtain ⟨iA,jG,p1,uo⟩:=I.list jF
  obtain ⟨gk,uq,p2,P0⟩:=I.list um
  have e1:=jG.length
  have e2:=uq.length
  have W:=WalksT.zip2 (prog:=X.prog) (w:=X.w) (A:=X.A) (I.ok.hd hc) z TI TO i1 i2 l1 l2 D iA.toArray gk.toArray
  refine W.item i s _ _ (by simp;omega) ⟨st.1,st.2.1,st.2.2.1,st.2.2.2.1,st.2.2.2.2,p1.isList,p2.isList⟩ fun T vals h' tk Ee oi Dz tK hk=>⟨.ref T,rfl,W.go elts kk pos i T _ _ _ tK fun Ef mv tM=>?_⟩
  obtain ⟨x,y,hx,hy,rfl⟩:=Ee
  have nZ:xs[i]?=some (xs[i]'(by omega)):=List.getElem?_eq_getElem _
  have P1:ys[i]?=some (ys[i]'(by omega)):=List.getElem?_eq_getElem _
  obtain ⟨u,hu,ru⟩:=jG.get nZ
  obtain ⟨u',bh,ru'⟩:=uq.get P1
  have ex:x=u:=by
   have:iA[i]?=some x:=by simpa using hx
   rw [hu] at this;exact (Option.some.inj this).symm
  have ey:y=u':=by
   have:gk[i]?=some y:=by simpa using hy
   rw [bh] at this;exact (Option.some.inj this).symm
  subst ex ey
  have sub:∀ b ∈ [z,TO,i1,i2],b ∈ [z,TI,TO,i1,i2]:=fun b hb=>by
   simp only [List.mem_cons,List.not_mem_nil,or_false] at hb ⊢
   rcases hb with rfl | rfl | rfl | rfl<;>simp
  have Eg:IsTup Ef T [x,y].toArray:=Dz.at fun o e=>tM T o (W.apart i T _ tK) e
  refine ⟨.ref T,upd H T (.tup [xs[i]'(by omega),ys[i]'(by omega)]),I.KL (fs:=[z,TO,i1,i2]) (fun b o hb e=>tM b o hb (hk b o hb e)) (fun b hb=>hf b (sub b hb)) oi ⟨by show 2<=sizeLine;decide,[x,y],.cons ru (.cons ru' .nil),Eg⟩,rfl,
   ⟨T,_,_,I.av.fresh oi,nZ,P1,rfl,rfl⟩,⟨mv.1,mv.2.1,mv.2.2.1,mv.2.2.2.1,mv.2.2.2.2.1⟩,fun b hb=>?_⟩
  obtain ⟨o,eo,_⟩:∃ o,s.heap.get? b=some o/\True:=by
   obtain ⟨g1,g2,⟨a,c,g3⟩,⟨o1,g4,_⟩,⟨o2,g6,_⟩⟩:=st
   simp only [List.mem_cons,List.not_mem_nil,or_false] at hb
   rcases hb with rfl | rfl | rfl | rfl | rfl
   ·exact ⟨_,g1,trivial⟩
   ·exact ⟨_,g2,trivial⟩
   ·exact ⟨_,g3,trivial⟩
   ·exact ⟨_,g4,trivial⟩
   ·exact ⟨_,g6,trivial⟩
  rw [aP (Nat.ne_of_lt (Nat.lt_of_lt_of_le (Heap.lt_size eo) oi))]
  exact (hf b hb).1
 done:=by
  intro X hP hw hK hc i pins s σ H E I hf st hg
  subst hP hw hK
  obtain ⟨jF,um,rfl⟩:=hg
  obtain ⟨iA,jG,p1,uo⟩:=I.list jF
  obtain ⟨gk,uq,p2,P0⟩:=I.list um
  have e1:=jG.length
  have e2:=uq.length
  have W:=WalksT.zip2 (prog:=X.prog) (w:=X.w) (A:=X.A) (I.ok.hd hc) z TI TO i1 i2 l1 l2 D iA.toArray gk.toArray
  have en:min iA.toArray.size gk.toArray.size=min xs.length ys.length:=by simp only [List.size_toArray];omega
  refine W.done s _ _ (by rw [en];exact ⟨st.1,st.2.1,st.2.2.1,st.2.2.2.1,st.2.2.2.2,p1.isList,p2.isList⟩) fun h' tk hk=>⟨rfl,I.Bg (fs:=[z,TO,i1,i2]) hk fun b hb=>hf b ?_⟩
  simp only [List.mem_cons,List.not_mem_nil,or_false] at hb ⊢
  rcases hb with rfl | rfl | rfl | rfl<;>simp
 self:=fun A i s Q E st h=>wpAny_pyIter_zip st.1 h
theorem Uk {P:Program}{w:World}{K:PySem.W.Frag}{elts:List Expr}{kk:Nat}{pos:Pos}{e it l:Addr}{xs:List V}(P2:e ≠ it)(hle:l ≠ e)(P4:l ≠ it) :
  Turn P w K (.Tuple elts kk pos) (PZ K l xs) [e,it] e (fun i h=>(∃ old,IsEnum h e it i old)/\h.IsListIter it l i) where
 mem:=by simp
 obj:=by
  rintro i h ⟨⟨old,h1⟩,⟨o1,h4,_,h5⟩⟩ b hb
  simp only [List.mem_cons,List.not_mem_nil,or_false] at hb
  rcases hb with rfl | rfl
  ·exact ⟨_,h1,fun v z=>by cases z⟩
  ·exact ⟨_,h4,fun v z=>by rw [h5] at z;cases z⟩
 keep:=by
  rintro i h h' ⟨⟨old,h1⟩,h4⟩ k
  exact ⟨⟨old,k _ (by simp) _ h1⟩,h4.at fun o e=>k _ (by simp) o e⟩
 item:=by
  intro X hP hw hK hc i pins s σ H E I hf st hg
  subst hP hw hK
  obtain ⟨jF,aZ⟩:=hg
  obtain ⟨iA,jG,p1,uo⟩:=I.list jF
  have e1:=jG.length
  have W:=WalksT.enumerate (prog:=X.prog) (w:=X.w) (A:=X.A) (I.ok.hd hc) e it l P2 hle P4 iA.toArray
  refine W.item i s _ _ (by simp;omega) ⟨st.1,st.2,p1.isList⟩ fun T vals h' tk Ee oi Dz tK hk=>⟨.ref T,rfl,W.go elts kk pos i T _ _ _ tK fun Ef mv tM=>?_⟩
  obtain ⟨t,x,hx,rfl⟩:=Ee
  have nZ:xs[i]?=some (xs[i]'(by omega)):=List.getElem?_eq_getElem _
  obtain ⟨u,hu,ru⟩:=jG.get nZ
  have ex:x=u:=by
   have:iA[i]?=some x:=by simpa using hx
   rw [hu] at this;exact (Option.some.inj this).symm
  subst ex
  have Eg:IsTup Ef T [Value.int (i:Nat) t,x].toArray:=Dz.at fun o e=>tM T o (W.apart i T _ tK) e
  refine ⟨.ref T,upd H T (.tup [.int (i:Nat),xs[i]'(by omega)]),I.KL (fs:=[e,it]) (fun b o hb e=>tM b o hb (hk b o hb e)) hf oi ⟨by show 2<=sizeLine;decide,[.int (i:Nat) t,x],.cons ⟨t,rfl⟩ (.cons ru .nil),Eg⟩,rfl,
   ⟨T,_,I.av.fresh oi,nZ,rfl,rfl⟩,⟨mv.1,mv.2.1⟩,fun b hb=>?_⟩
  obtain ⟨o,eo,_⟩:∃ o,s.heap.get? b=some o/\True:=by
   obtain ⟨⟨old,g1⟩,⟨o1,g4,_⟩⟩:=st
   simp only [List.mem_cons,List.not_mem_nil,or_false] at hb
   rcases hb with rfl | rfl
   ·exact ⟨_,g1,trivial⟩
   ·exact ⟨_,g4,trivial⟩
  rw [aP (Nat.ne_of_lt (Nat.lt_of_lt_of_le (Heap.lt_size eo) oi))]
  exact (hf b hb).1
 done:=by
  intro X hP hw hK hc i pins s σ H E I hf st hg
  subst hP hw hK
  obtain ⟨jF,rfl⟩:=hg
  obtain ⟨iA,jG,p1,uo⟩:=I.list jF
  have e1:=jG.length
  have W:=WalksT.enumerate (prog:=X.prog) (w:=X.w) (A:=X.A) (I.ok.hd hc) e it l P2 hle P4 iA.toArray
  have en:iA.toArray.size=xs.length:=by simp only [List.size_toArray];omega
  exact W.done s _ _ (by rw [en];exact ⟨st.1,st.2,p1.isList⟩) fun h' tk hk=>⟨rfl,I.Bg (fs:=[e,it]) hk hf⟩
 self:=fun A i s Q E st h=>by
  obtain ⟨⟨old,h1⟩,_⟩:=st
  exact wpAny_pyIter_enum h1 h
def N4 (K:PySem.W.Frag)(ta:TA):TI:=fun σ H R=>ta σ H fun vs H1=>∃ l1 l2 xs ys,vs=[.ref l1,.ref l2]/\aH K H1 l1 xs/\aH K H1 l2 ys/\R (PY K l1 l2 xs ys) H1
def N5 (K:PySem.W.Frag)(ta:TA):TI:=fun σ H R=>ta σ H fun vs H1=>∃ l xs,vs=[.ref l]/\aH K H1 l xs/\R (PZ K l xs) H1
section
variable {X:Cx}{elts:List Expr}{kk:Nat}{tp:Pos}
theorem Yd {a b:Expr}{ta:TA}{p pos:Pos}(hg:Gl X "zip")(hm:X.mg "zip" = none)(ha:PA X [a,b] ta)(hs:starEach [a,b] X.env=[(false,eval a X.env),(false,eval b X.env)]:=by rfl)(gy:starEach [b] X.env=[(false,eval b X.env)]:=by rfl) :
  PI X (.Tuple elts kk tp) (.Call (.Name "zip" p) [a,b] [] pos) (N4 X.K ta):=by
 intro pins s σ H R I h
 refine Call_ (lS I hg hm X6 (PyProof.Rows.callWith_type1 (ay (ha pos pins s σ H _ I h) fun us s1 ⟨vs,H1,I1,r1,q1⟩=>?_) (by rw [hs,gy]) (by rw [gy];rfl)))
 obtain ⟨l1,l2,xs,ys,rfl,jF,um,q⟩:=q1
 obtain ⟨u1,u2,rfl,c1,c2⟩:=r1.two
 cases c1
 cases c2
 obtain ⟨iA,jG,p1,uo⟩:=I1.list jF
 obtain ⟨gk,uq,p2,P0⟩:=I1.list um
 have xO:l1<s1.heap.objs.size:=by obtain ⟨o,n,e,_⟩:=p1;exact Heap.lt_size e
 have nX:l2<s1.heap.objs.size:=by obtain ⟨o,n,e,_⟩:=p2;exact Heap.lt_size e
 refine call_zip_2 p1.isList p2.isList fun h' hz hTI hTO hi1 hi2 hsz hk=>wpAny_pyIter_zip hz ?_
 have I2:Inv X pins σ H1 { s1 with heap:=h' }:=I1.kept (t':=s1.toks) hk
 refine ⟨s1.heap.objs.size+4,[s1.heap.objs.size+4,s1.heap.objs.size+2,s1.heap.objs.size+3,s1.heap.objs.size,s1.heap.objs.size+1],_,_,H1,rfl,I2,U9 (PySem.W.ktu_apart _ _ _ xO nX),⟨hz,hTI,⟨_,_,hTO⟩,hi1,hi2⟩,fun b hb=>?_,q⟩
 have eI:s1.heap.objs.size<=b:=by
  simp only [List.mem_cons,List.not_mem_nil,or_false] at hb
  rcases hb with rfl | rfl | rfl | rfl | rfl<;>omega
 obtain ⟨f0,f1,f2,f3,f4,f5⟩:=I1.qo (H':=H1) eI (I1.av.fresh eI)
 exact ⟨f0,f1,f2,f3,f4,f5⟩
theorem Wd {a:Expr}{ta:TA}{p pos:Pos}(hg:Gl X "enumerate")(hm:X.mg "enumerate" = none)(ha:PA X [a] ta)(hs:starEach [a] X.env=[(false,eval a X.env)]:=by rfl) :
  PI X (.Tuple elts kk tp) (.Call (.Name "enumerate" p) [a] [] pos) (N5 X.K ta):=by
 intro pins s σ H R I h
 refine Call_ (lS I hg hm Sw (PyProof.Rows.callWith_type1 (ay (ha pos pins s σ H _ I h) fun us s1 ⟨vs,H1,I1,r1,q1⟩=>?_) hs rfl))
 obtain ⟨l,xs,rfl,jF,q⟩:=q1
 obtain ⟨u1,rfl,c1⟩:=r1.one
 cases c1
 obtain ⟨iA,jG,p1,uo⟩:=I1.list jF
 have xO:l<s1.heap.objs.size:=by obtain ⟨o,n,e,_⟩:=p1;exact Heap.lt_size e
 refine call_enumerate_list p1.isList fun h' hE hI hsz hk=>wpAny_pyIter_enum hE ?_
 have I2:Inv X pins σ H1 { s1 with heap:=h' }:=I1.kept (t':=s1.toks) hk
 refine ⟨s1.heap.objs.size+1,[s1.heap.objs.size+1,s1.heap.objs.size],_,_,H1,rfl,I2,Uk (Nat.succ_ne_self _) (PySem.W.ktu_ne 1 xO) (Nat.ne_of_lt xO),⟨⟨_,hE⟩,hI⟩,fun b hb=>?_,q⟩
 have eI:s1.heap.objs.size<=b:=by
  simp only [List.mem_cons,List.not_mem_nil,or_false] at hb
  rcases hb with rfl | rfl<;>omega
 obtain ⟨f0,f1,f2,f3,f4,f5⟩:=I1.qo (H':=H1) eI (I1.av.fresh eI)
 exact ⟨f0,f1,f2,f3,f4,f5⟩
end
section
variable {ι:Type}{F:aY ι}{a b tg:Expr}{ρ:En}{ta tb':Tr}{elts:List Expr}{kk:Nat}{tp pos:Pos}
def qA (xs ys:List Dv):List Dv:=List.zipWith (fun x y=>.tup [x,y]) xs ys
def kP (xs:List Dv):List Dv:=(List.range xs.length).zipWith (fun k x=>.tup [di (k:Nat),x]) xs
theorem We {xs ys:List Dv}(hm:F.mg "zip" = none)(ha:Ev F a ρ ta)(hb:Ev F b ρ tb')(ea:er ta=.lst xs)(eb:er tb'=.lst ys){p:Pos}(hg:∀ i,Gl (F.cx i) "zip" := by intro _;rfl)(hs:∀ i,starEach [a,b] (F.cx i).env=[(false,eval a (F.cx i).env),(false,eval b (F.cx i).env)]:=by intro _;rfl)(gy:∀ i,starEach [b] (F.cx i).env=[(false,eval b (F.cx i).env)]:=by intro _;rfl) :
  bJ F (.Tuple elts kk tp) (.Call (.Name "zip" p) [a,b] [] pos) ρ (qA xs ys):=by
 obtain ⟨τ,p,q⟩:=(af ha (af hb aq gy) (fun i=>by rw [hs i,gy i])).use
 refine ⟨N4 F.K τ,fun i=>F.hK i ▸ Yd (hg i) ((F.hm i).symm ▸ hm) (p i) (hs i) (gy i),fun σ G H R s r k=>q σ G H _ s r fun vs G1 H1 s1 hx=>?_⟩
 obtain ⟨x,y,rfl,h1,h2⟩:=Z0 hx
 rw [ea] at h1
 rw [eb] at h2
 obtain ⟨l1,us,rfl,g1,g2⟩:=h1
 obtain ⟨l2,ws,rfl,g3,g4⟩:=h2
 have e1:=g2.length
 have e2:=g4.length
 refine ⟨l1,l2,us,ws,rfl,s1.s.seq g1,s1.s.seq g3,k _ G1 H1 s1 fun j G2 H2 sg sh=>⟨fun d hd=>?_,fun hz=>?_⟩⟩
 ·unfold qA at hd
  rw [List.getElem?_zipWith] at hd
  cases qx:xs[j]? with
  |none=>rw [qx] at hd;cases hd
  |some dx =>
   cases qy:ys[j]? with
   |none=>rw [qx,qy] at hd;cases hd
   |some dy =>
    rw [qx,qy] at hd
    cases hd
    obtain ⟨vx,x1,x2⟩:=g2.get qx
    obtain ⟨vy,y1,y2⟩:=g4.get qy
    have lx:j<us.length:=(List.getElem?_eq_some_iff.mp x1).1
    have ly:j<ws.length:=(List.getElem?_eq_some_iff.mp y1).1
    refine ⟨⟨(sg.trans sh).seq g1,(sg.trans sh).seq g3,by omega⟩,?_⟩
    rintro x H3 ⟨T,wx,wy,hT,z1,z2,rfl,rfl⟩
    rw [x1] at z1
    rw [y1] at z2
    cases z1
    cases z2
    refine ⟨_,.new sh hT,T,_,rfl,cM.of bE,_,_,rfl,(x2.mono sg).mono (ai.new (sh.free hT)),_,_,rfl,(y2.mono sg).mono (ai.new (sh.free hT)),rfl⟩
 ·refine ⟨(sg.trans sh).seq g1,(sg.trans sh).seq g3,?_⟩
  rw [hz]
  unfold qA
  rw [List.length_zipWith,e1,e2]
theorem rW {xs:List Dv}(hm:F.mg "enumerate" = none)(ha:Ev F a ρ ta)(ea:er ta=.lst xs){p:Pos}(hg:∀ i,Gl (F.cx i) "enumerate" := by intro _;rfl)(hs:∀ i,starEach [a] (F.cx i).env=[(false,eval a (F.cx i).env)]:=by intro _;rfl):bJ F (.Tuple elts kk tp) (.Call (.Name "enumerate" p) [a] [] pos) ρ (kP xs):=by
 obtain ⟨τ,p,q⟩:=(af ha aq hs).use
 refine ⟨N5 F.K τ,fun i=>F.hK i ▸ Wd (hg i) ((F.hm i).symm ▸ hm) (p i) (hs i),fun σ G H R s r k=>q σ G H _ s r fun vs G1 H1 s1 hx=>?_⟩
 obtain ⟨x,rfl,h1⟩:=kh hx
 rw [ea] at h1
 obtain ⟨l1,us,rfl,g1,g2⟩:=h1
 have e1:=g2.length
 refine ⟨l1,us,rfl,s1.s.seq g1,k _ G1 H1 s1 fun j G2 H2 sg sh=>⟨fun d hd=>?_,fun hz=>?_⟩⟩
 ·unfold kP at hd
  rw [List.getElem?_zipWith] at hd
  cases qx:xs[j]? with
  |none =>
   rw [qx] at hd
   cases q2:(List.range xs.length)[j]? with
   |none=>rw [q2] at hd;cases hd
   |some z=>rw [q2] at hd;cases hd
  |some dx =>
   have lj:j<xs.length:=(List.getElem?_eq_some_iff.mp qx).1
   rw [qx,List.getElem?_range lj] at hd
   cases hd
   obtain ⟨vx,x1,x2⟩:=g2.get qx
   refine ⟨⟨(sg.trans sh).seq g1,by omega⟩,?_⟩
   rintro x H3 ⟨T,wx,hT,z1,rfl,rfl⟩
   rw [x1] at z1
   cases z1
   exact ⟨_,.new sh hT,T,_,rfl,cM.of bE,_,_,rfl,⟨rfl,rfl⟩,_,_,rfl,(x2.mono sg).mono (ai.new (sh.free hT)),rfl⟩
 ·refine ⟨(sg.trans sh).seq g1,?_⟩
  rw [hz]
  unfold kP
  rw [List.length_zipWith,List.length_range,Nat.min_self,e1]
theorem II {n:Nat}{ds dd:List Dv}(e:CG n (.tup ds)=some dd):ds.length=n/\dd=ds:=by
 have e':(if ds.length=n then some ds else none)=some dd:=e
 by_cases h:ds.length=n
 ·rw [if_pos h] at e';cases e';exact ⟨h,rfl⟩
 ·rw [if_neg h] at e';cases e'
theorem nq (j1 j2:Nat){x y:Str}{px py:Pos}(hN:∀ i,(F.cx i).N.Nodup)(h1:∀ i,(F.cx i).N[j1]?=some x:=by intro _;rfl)(h2:∀ i,(F.cx i).N[j2]?=some y:=by intro _;rfl)(hx:∀ i,Loc (F.cx i).env.scope x:=by intro _;first | exact Or.inl rfl | exact Or.inr rfl)(hy:∀ i,Loc (F.cx i).env.scope y:=by intro _;first | exact Or.inl rfl | exact Or.inr rfl)(fx:∀ i,(F.cx i).fn x=true\/(F.cx i).env.scope.names.lookup x=some .local:=by intro _;first | exact .inl rfl | exact .inr rfl)(fy:∀ i,(F.cx i).fn y=true\/(F.cx i).env.scope.names.lookup y=some .local:=by intro _;first | exact .inl rfl | exact .inr rfl) :
  jD F (.Tuple [.Name x px,.Name y py] kk tp) [j1,j2] (CG 2) :=
 ⟨Di F.K 2 (p9 (cZ j1) (p9 (cZ j2) Dh)),fun i=>F.hK i ▸ Ly (F.calm i) (rS (jU (hN i) (h1 i) (hx i) (fx i)) (rS (jU (hN i) (h2 i) (hy i) (fy i)) Ks)),fun d dd v σ G H Q e s h k=>by
  cases d with
  |fl _=>cases e
  |lst _=>cases e
  |tup ds =>
   obtain ⟨hl,rfl⟩:=II e
   obtain ⟨a,vs,rfl,q1,q2⟩:=h
   have hv:vs.length=2:=by rw [<- q2.length];exact hl
   refine ⟨a,vs,rfl,s.tup q1,hv,?_⟩
   match vs,hv with
   |[v1,v2],_=>exact ⟨v1,[v2],rfl,v2,[],rfl,rfl,k [v1,v2] q2⟩⟩
theorem Ye (j1 j2 j3:Nat){x y z:Str}{px py pz:Pos}(hN:∀ i,(F.cx i).N.Nodup)(h1:∀ i,(F.cx i).N[j1]?=some x:=by intro _;rfl)(h2:∀ i,(F.cx i).N[j2]?=some y:=by intro _;rfl)(h3:∀ i,(F.cx i).N[j3]?=some z:=by intro _;rfl)(hx:∀ i,Loc (F.cx i).env.scope x:=by intro _;first | exact Or.inl rfl | exact Or.inr rfl)(hy:∀ i,Loc (F.cx i).env.scope y:=by intro _;first | exact Or.inl rfl | exact Or.inr rfl)(hz:∀ i,Loc (F.cx i).env.scope z:=by intro _;first | exact Or.inl rfl | exact Or.inr rfl)(fx:∀ i,(F.cx i).fn x=true\/(F.cx i).env.scope.names.lookup x=some .local:=by intro _;first | exact .inl rfl | exact .inr rfl)(fy:∀ i,(F.cx i).fn y=true\/(F.cx i).env.scope.names.lookup y=some .local:=by intro _;first | exact .inl rfl | exact .inr rfl)(fz:∀ i,(F.cx i).fn z=true\/(F.cx i).env.scope.names.lookup z=some .local:=by intro _;first | exact .inl rfl | exact .inr rfl) :
  jD F (.Tuple [.Name x px,.Name y py,.Name z pz] kk tp) [j1,j2,j3] (CG 3) :=
 ⟨Di F.K 3 (p9 (cZ j1) (p9 (cZ j2) (p9 (cZ j3) Dh))),fun i=>F.hK i ▸ Ly (F.calm i) (rS (jU (hN i) (h1 i) (hx i) (fx i)) (rS (jU (hN i) (h2 i) (hy i) (fy i)) (rS (jU (hN i) (h3 i) (hz i) (fz i)) Ks))),fun d dd v σ G H Q e s h k=>by
  cases d with
  |fl _=>cases e
  |lst _=>cases e
  |tup ds =>
   obtain ⟨hl,rfl⟩:=II e
   obtain ⟨a,vs,rfl,q1,q2⟩:=h
   have hv:vs.length=3:=by rw [<- q2.length];exact hl
   refine ⟨a,vs,rfl,s.tup q1,hv,?_⟩
   match vs,hv with
   |[v1,v2,v3],_=>exact ⟨v1,[v2,v3],rfl,v2,[v3],rfl,v3,[],rfl,rfl,k [v1,v2,v3] q2⟩⟩
end
theorem Va {X:Cx}{elt tg iter:Expr}{ifs:List Expr}{sc:Scope}{cl:List (Str×Addr)}{own:List Str}{fr:List Nat}{pos tN py:Pos}{wi:TI}{g:TG}{tt:TT}{te:TE}{y0:Str}{j0:Nat}(L:hJ X sc cl fr)(hc:X.calm=true)(hi:PI X tg iter wi)(hg:∀ C s H ex pn,PG (bU X own fr sc cl C s H ex pn) tg g)(ht:∀ C s H ex pn (pins:List (Addr×Obj)) (s1:Shared) (aA:St) (H1:Hp) (Q:Bool->Hp->Prop),Inv (bU X own fr sc cl C s H ex pn) pins aA H1 s1->tt aA H1 Q ->
   wpAny (model X.prog X.w) X.A (jV ifs (compEnvC sc (cellsFrom (C+1) sc.names cl) C X.env)) (TP (bU X own fr sc cl C s H ex pn) pins aA Q) cv s1)(he:∀ C s H ex pn,PE (bU X own fr sc cl C s H ex pn) elt te)(hN0:X.N.Nodup)(hj0:X.N[j0]?=some y0)(hx0:Loc X.env.scope y0)(gx:swapsWith (.ListComp elt [⟨tg,iter,ifs,0⟩] sc pos) (some (.Name y0 py)) tN.line X.env=pure true)(hf0:X.fn y0=true\/X.env.scope.names.lookup y0=some .local)(hs:∀ x,foldedSetIterable iter X.env x=pure x:=by intro _;rfl) :
  PS X (.Assign [.Name y0 py] (.ListComp elt [⟨tg,iter,ifs,0⟩] sc pos) tN) (i3 (qK wi g tt te own fr) (cZ j0)):=by
 intro pins s σ H D I h
 rw [exec_Assign_Name_used _ _ _ _ gx]
 refine wpAny_bind (wpAny_standAt (wpAny_bind ?_))
 show wpAny _ X.A (do let _ <- comprehension (.ListComp elt [⟨tg,iter,ifs,0⟩] sc pos) sc X.env _ (newList []) false (eval iter X.env) (some (assign (.Name y0 py) X.env))) _ _ s
 refine wpAny_bind (wpAny_mono (wpAny_comprehension_free (use:=some (assign (.Name y0 py) X.env)) (Q:=fun _ s'=>SP X pins D .next s') rfl hs L.wR L.kind L.names (ay (hi pins s σ H _ I h) fun v s1 h1=>ay h1 fun nU s2 h2=>?_)) (fun _ s' hq=>wpAny_pure (wpAny_pure hq)) fun _ _ e=>e)
 obtain ⟨it,fp,tn,J,H2,e,I2,T,aD,f2,h2⟩:=h2
 subst e
 refine wpAny_newObj_type ?_
 have I3:Inv X pins σ (upd H2 s2.heap.objs.size (.lst [])) { s2 with heap:=s2.heap.push { cls:=.type "list",data:=.seq ([]:List Value).toArray } }:=I2.wN (t':=s2.toks) .nil (Nat.zero_le _)
 have n2:H2 s2.heap.objs.size=none:=I2.fresh
 obtain ⟨W,⟨m0,w0⟩,turn⟩:=h2 _ n2
 have nX:∀ b ∈ fp,b<s2.heap.objs.size:=fun b hb=>by
  obtain ⟨o,eo,_⟩:=T.obj 0 _ aD b hb
  exact Heap.lt_size eo
 have bV:∀ b ∈ fp,eZ X pins (upd H2 s2.heap.objs.size (.lst [])) b:=fun b hb=>⟨by rw [aP (Nat.ne_of_lt (nX b hb))];exact (f2 b hb).1,(f2 b hb).2⟩
 generalize fc:({ s2 with heap:=s2.heap.push { cls:=.type "list",data:=.seq ([]:List Value).toArray } }:Shared)=s3 at I3
 have de:tn 0 s3.heap:=by
  rw [<- fc]
  exact T.keep 0 _ _ aD fun b hb o eo=>Heap.get?_push_of_some _ eo
 have jB:∀ b ∈ fp,b<s3.heap.objs.size:=fun b hb=>by
  obtain ⟨o,eo,_⟩:=T.obj 0 _ de b hb
  exact Heap.lt_size eo
 generalize t8:upd H2 s2.heap.objs.size (.lst [])=H3 at I3 bV w0
 generalize s2.heap.objs.size=acc at turn w0 t8 ⊢
 refine zF ?_
 have gS:(pushCells (s3.heap.push { cls:=.type "dict",data:=.dict #[] }) sc.names).Ns s3.heap.objs.size fun _=>none:=(Heap.Ns.new s3.heap (.type "dict")).keeps (pushCells_keeps _ _)
 have kp:∀ b o,s3.heap.get? b=some o->(pushCells (s3.heap.push { cls:=.type "dict",data:=.dict #[] }) sc.names).get? b=some o:=fun b o eo=>pushCells_keeps _ _ b o (Heap.get?_push_of_some _ eo)
 have kr:∀ y c,(cellsFrom (s3.heap.objs.size+1) sc.names cl).lookup y=some c->cl.lookup y=some c\/(pushCells (s3.heap.push { cls:=.type "dict",data:=.dict #[] }) sc.names).IsCell c none:=fun y c e =>
  sk sc.names (s3.heap.push { cls:=.type "dict",data:=.dict #[] }) cl y c (by rw [Heap.size_push];exact e)
 generalize PC:pushCells (s3.heap.push { cls:=.type "dict",data:=.dict #[] }) sc.names=h4 at gS kp kr
 have I4:=lcInv (own:=own) (tk:=s3.toks) L I3 bV jB gS kp kr
 have mK:tn 0 h4:=T.keep 0 _ _ de fun b hb o eo=>kp b o eo
 have stat:∀ {H':Hp},(∀ b ∈ fp,H' b=none)->∀ b ∈ fp,eZ (bU X own fr sc cl s3.heap.objs.size s3 H3 fp (X.pn++pins)) [] H' b:=fun {H'} hn b hb =>
  ⟨hn b hb,Nat.ne_of_lt (jB b hb),fun z=>(List.mem_cons.mp (I3.lR b z)).elim (bV b hb).2.1 (bV b hb).2.2.1,.inl hb,fun y c e=>(pq _ _ _ y c e).elim (fun q=>(bV b hb).2.2.2.2.1 y c (L.sub y c q)) fun q=>Nat.ne_of_gt (Nat.lt_of_lt_of_le (jB b hb) (Nat.le_of_succ_le q.1)),fun p hp=>(bV b hb).2.2.2.2.2 p (by
   have z:p ∈ (X.pn++pins)++[]:=hp
   simpa using z)⟩
 have loop:codeAny (model X.prog X.w) X.A (.compLoop (.ListComp elt [⟨tg,iter,ifs,0⟩] sc pos) 0 (.ref it) (.ref acc) (compEnvC sc (cellsFrom (s3.heap.objs.size+1) sc.names cl) s3.heap.objs.size X.env))
   (compPost (model X.prog X.w) X.A X.xe (some (assign (.Name y0 py) X.env)) (fun _ s'=>SP X pins D .next s') (.ref acc) s3.heap.objs.size) { s3 with heap:=h4,toks:=s3.toks }:=by
  refine BJ (fun n s'=>∃ i ys aA H1,Inv (bU X own fr sc cl s3.heap.objs.size s3 H3 fp (X.pn++pins)) [] aA H1 s'/\tn i s'.heap/\(∀ b ∈ fp,H1 b=none)/\W i n ys aA H1) ?_ m0 ⟨0,[],_,H3,I4,mK,fun b hb=>(bV b hb).1,w0⟩
  rintro n s5 ⟨i,ys,gT,H5,I5,jf,kq,w5⟩
  obtain ⟨dg,hlen,hh⟩:=turn i n ys gT H5 w5
  rcases hh with ⟨stop,qn⟩ | ⟨go,N,hN,step⟩
  ·refine ay (T.done (bU X own fr sc cl s3.heap.objs.size s3 H3 fp (X.pn++pins)) rfl rfl rfl hc i [] s5 gT H5 cv I5 (stat kq) jf stop) fun r s6 ⟨hr,I6⟩=>?_
   subst hr
   obtain ⟨m6,t9,_⟩:=id I6.loc
   have back:∀ h7,Heap.SameBut s3.heap.objs.size s6.heap h7->Inv X pins σ H5 { s6 with heap:=h7 }:=fun h7 gU=>by
    have old:∀ b o,s3.heap.get? b=some o->b ≠ s3.heap.objs.size:=fun b o eo=>Nat.ne_of_lt (Heap.lt_size eo)
    have u6:Un (bG X.stack) fp H3 H5 s3.heap s6.heap:=I6.base
    have u7:Un (bG X.stack) fp H3 H5 s3.heap h7 :=
     ⟨fun b o eo nn hb hx=>(gU.2 b (old b o eo)).trans (u6.keep b o eo nn hb hx),fun b o eo nn hb hx=>by
      obtain ⟨sl,q⟩:=u6.slot b o eo nn hb hx
      exact ⟨sl,(gU.2 b (old b o eo)).trans q⟩,u6.free,fun b o eo hx=>by
      obtain ⟨o',q⟩:=u6.there b o eo hx
      exact ⟨o',(gU.2 b (old b o eo)).trans q⟩,u6.eh,u6.dR,u6.eu⟩
    have fC:H5 s3.heap.objs.size=none:=I6.free
    have tI:bO X.prog X.w H5 h7:=fun b ob eb=>by
     refine (I6.av b ob eb).iq (fun c w' gR q=>(gU.2 c ?_).trans q) (fun _ q=>q) fun _ _ q=>q
     rintro rfl
     rcases gR with z | z
     ·rw [<- z,fC] at eb;cases eb
     ·rw [fC] at z;cases z
    exact I3.wm (s':={ s6 with heap:=h7 }) I6.os u7 tI I6.bare fun b hb=>⟨(bV b hb).2.2.2.1,(bV b hb).2.1,(bV b hb).2.2.2.2.1,(bV b hb).2.2.2.2.2⟩
   have fC0:H5 s3.heap.objs.size=none:=I6.free
   show wpAny _ _ (assign (.Name y0 py) X.env (.ref acc)) _ X.xe s6
   refine wpAny_assign_Name (IU (v:=.ref acc) (back s6.heap (Heap.SameBut.refl ..)) hN0 hj0 hx0 rfl (fun s7 I7 ⟨a,sb,ha⟩=>?_) hf0)
   have aC:s3.heap.objs.size ≠ a:=by
    rcases ha with rfl | ha
    ·exact Nat.ne_of_gt I3.lt
    ·obtain ⟨v0,q0⟩:=I3.cell y0 a ha
     exact Nat.ne_of_gt q0.lt
   refine ⟨m6,t9.sameBut sb aC,fun h8 sb8=>⟨_,H5,?_,qn⟩⟩
   exact Inv.Bg (t':=s7.toks) (fs:=[s3.heap.objs.size]) I7 (fun b o hb e=>(sb8.2 b (fun z=>hb (by rw [z];exact .head _))).trans e) (fun b hb=>by
    rw [List.mem_singleton.mp hb]
    exact I3.qo (H':=H5) (Nat.le_refl _) fC0)
  ·refine ay (T.item (bU X own fr sc cl s3.heap.objs.size s3 H3 fp (X.pn++pins)) rfl rfl rfl hc i [] s5 gT H5 cv I5 (stat kq) jf go) fun r s6 ⟨u,hr,h6⟩=>?_
   subst hr
   refine ay h6 fun _ s7 ⟨x,H7,I7,r7,y7,jC,ua⟩=>?_
   have ub:=I7.pinned (stat ua) (T.obj _ _ jC)
   refine ay (hg _ _ _ _ _ _ s7 gT H7 x u _ ub r7 (step x H7 y7)) fun _ s8 ⟨gV,H8,I8,q8⟩=>?_
   have again:∀ {zs:List V} {cz:St} {H9:Hp} {s9:Shared},Inv (bU X own fr sc cl s3.heap.objs.size s3 H3 fp (X.pn++pins)) ([]++nk fp s7.heap) cz H9 s9->N zs cz H9 ->
     ∃ m,m<n/\∃ i ys aA H1,Inv (bU X own fr sc cl s3.heap.objs.size s3 H3 fp (X.pn++pins)) [] aA H1 s9/\tn i s9.heap/\(∀ b ∈ fp,H1 b=none)/\W i m ys aA H1:=fun {zs cz H9 s9} I9 n9=>by
    obtain ⟨m',hm,w9⟩:=hN zs cz H9 n9
    refine ⟨m',hm,i+1,zs,cz,H9,I9.pC,T.keep _ _ _ jC fun b hb o e=>(I9.pin (b,o) (List.mem_append_right _ (List.mem_append_right _ (lL hb e)))).1,fun b hb=>?_,w9⟩
    obtain ⟨o,e,d⟩:=T.obj _ _ jC b hb
    exact (I9.pin (b,o) (List.mem_append_right _ (List.mem_append_right _ (lL hb e)))).2.1
   refine ay (ht _ _ _ _ _ _ s8 gV H8 _ I8 q8) fun ok s9 ⟨H9,I9,q9⟩=>?_
   cases ok with
   |false=>exact again I9 (by simpa using q9)
   |true =>
    refine ay (he _ _ _ _ _ _ s9 gV H9 _ I9 q9) fun z kW ⟨y,uc,iJ,ud,kX,uf⟩=>?_
    refine ay (mY _ kW gV uc (.ref acc) [y] (.ref acc) [z] (fun _ H'=>N (ys++[y]) gV H') iJ rfl (.cons ud .nil) ⟨acc,ys,y,rfl,rfl,kX,hlen,uf⟩) fun _ PD ⟨_,PF,ug,_,uh⟩=>again ug uh
 rw [<- fc] at loop ⊢
 exact codeAny_compStart_list loop (xE (T.self _ 0 _ _ _ mK (by rw [fc];rw [fc] at loop;exact loop)))
section
variable {ι:Type}{F:aY ι}{elt tg iter:Expr}{ifs:List Expr}{sc:Scope}{own:List Str}{fr:List Nat}{cl : ι->List (Str×Addr)}{ρ:En}{t:Tr}{pos tN py:Pos}
theorem qB (h:fh F own fr sc cl elt tg iter ifs ρ t):∃ τ,xK F own fr sc cl elt tg iter ifs τ/\∀ σ G H fp Q,ai G H->aJ F.K G H ρ σ fp->(∀ a ∈ fp,G a=none)->Kv F.K G H t Q->τ σ H Q :=
 let ⟨τ,v,y⟩:=h;⟨τ,v,fun σ G H fp Q s r _ k=>y σ G H Q s r.qO k⟩
theorem N6 (h:fh F own fr sc cl elt tg iter ifs (pk ρ) t)(c:Cl t):∃ τ,xK F own fr sc cl elt tg iter ifs τ/\∀ σ G H fp Q,ai G H->aJ F.K G H ρ σ fp->(∀ a ∈ fp,G a=none)->Kv F.K G H t Q->τ σ H Q:=by
 obtain ⟨τ,x,y⟩:=h
 refine ⟨τ,x,fun σ G H fp Q s r hg k=>?_⟩
 refine y σ (dk G H fp) H Q (lN s) (r.pk (g9 hg) fun a ha=>iU ha) fun v G' H' fq st o w=>?_
 refine k v G H' fq ⟨ai.refl _,st.h,s.trans st.h,fun a h h'=>absurd h h'⟩ (o.cl c) ⟨w.n,fun a ha=>s.free (w.n a ha),w.d⟩
theorem lW (j:Nat){x:Str}(h:∃ τ,xK F own fr sc cl elt tg iter ifs τ/\∀ σ G H fp Q,ai G H->aJ F.K G H ρ σ fp->(∀ a ∈ fp,G a=none)->Kv F.K G H t Q->τ σ H Q)(L:∀ i,hJ (F.cx i) sc (cl i) fr)(hN:∀ i,(F.cx i).N.Nodup)(hj:Nat.blt j ρ.length=true:=by rfl)(hi:∀ i,(F.cx i).N[j]?=some x:=by intro _;rfl)(hx:∀ i,Loc (F.cx i).env.scope x:=by intro _;first | exact Or.inl rfl | exact Or.inr rfl)(gx:∀ i,swapsWith (.ListComp elt [⟨tg,iter,ifs,0⟩] sc pos) (some (.Name x py)) tN.line (F.cx i).env=pure true:=by intro _;rfl)(hf:∀ i,(F.cx i).fn x=true\/(F.cx i).env.scope.names.lookup x=some .local:=by intro _;first | exact .inl rfl | exact .inr rfl)(hs:∀ i x,foldedSetIterable iter (F.cx i).env x=pure x:=by intro _ _;rfl) :
  Rn F (.Assign [.Name x py] (.ListComp elt [⟨tg,iter,ifs,0⟩] sc pos) tN) ρ (.nx (ρ.set j (some t))):=by
 obtain ⟨τ,⟨wi,g,tt,te,rfl,h1,h2,h3,h4⟩,z⟩:=h
 refine ⟨_,fun i=>Va (cl:=cl i) (L i) (F.calm i) (h1 i) (fun C s H ex pn=>h2 (i,⟨C,s,H,ex,pn⟩)) (fun C s H ex pn=>h3 (i,⟨C,s,H,ex,pn⟩)) (fun C s H ex pn=>h4 (i,⟨C,s,H,ex,pn⟩)) (hN i) (hi i) (hx i) (gx i) (hf i) (hs i),fun D σ G0 H0 G H r k=>?_⟩
 obtain ⟨fp,r⟩:=r
 exact z σ G H fp _ r.st.s r.own r.g fun v G1 H1 fq s1 o w=>k _ G1 H1 (r.set (Nat.le_of_ble_eq_true hj) s1 o w)
theorem fh.as {d:Dv}(h:fh F own fr sc cl elt tg iter ifs ρ t)(e:er t=d):fh F own fr sc cl elt tg iter ifs ρ (.fz d):=by
 obtain ⟨τ,v,q⟩:=h
 refine ⟨τ,v,fun σ G H Q s r k=>q σ G H Q s r fun v G' H' fq st o w=>?_⟩
 exact k v (dk G' H' fq) H' [] (st.cK w) ⟨rfl,e ▸ o.hv (g9 w.g) fun a ha=>iU ha⟩ .nil
theorem fh.to {t':Tr}(h:fh F own fr sc cl elt tg iter ifs ρ t)(e:t=t'):fh F own fr sc cl elt tg iter ifs ρ t':=e ▸ h
end
def BR (K:PySem.W.Frag):V->List V->Hp->VK->Prop:=fun x vs H Q=>∃ l xs y,x=.ref l/\vs=[y]/\aH K H l xs/\eX y=true/\xs.all eX=true/\Q (.int (xs.countP fun z=>fF z y)) H
theorem IJ {x:V}:∀ {xs:List V} {us:List Value},Vals xs us->xs.all eX=true->us.countP (fG x)=xs.countP fun y=>fF y x
 |_,_,.nil,_=>rfl
 |y::xs,u::us,.cons r t,f=>by
  rw [List.all_cons,Bool.and_eq_true] at f
  rw [List.countP_cons,List.countP_cons,IJ t f.2,BH r f.1]
section
variable {X:Cx}
theorem JH:xC X "list.count" (BR X.K):=by
 intro pins s σ H x vs v us Q I rx rv h
 obtain ⟨l,xs,y,rfl,rfl,hq,fy,fs,q⟩:=h
 cases rx
 obtain ⟨u,rfl,ru⟩:=rv.one
 obtain ⟨its,r,⟨⟨cl,dd,da,sl⟩,n,e,c1,c2,d1⟩,z⟩:=I.list hq
 simp only at c1 d1
 subst c1 d1
 refine call_meets F.slot_list_count ⟨_,e,rfl⟩ F.entry_list_count (F.args_list_count_2 _ _) (SeqAt.list_countAt l its.toArray n dd sl u (fG y)) ⟨e,fun w hw=>pD ru fy r fs w (by simpa using hw),?_⟩
 refine ⟨.int _,H,I.tok _,⟨_,rfl⟩,?_⟩
 rw [show its.toArray.toList=its by simp,IJ r fs]
 exact q
end
section
variable {ι:Type}{F:aY ι}{e a b c:Expr}{es:List Expr}{ρ:En}{t ta tb' tc:Tr}{ts:List Tr}{pos:Pos}
theorem Iv (n:Int):∀ ns:List Int,(ns.map V.int).countP (fun z=>fF z (.int n))=ns.count n
 |[] => rfl
 |m::ms=>by
  rw [List.map_cons,List.countP_cons,Iv n ms,List.count_cons]
  rfl
theorem Nb {nm:Str}{id:String}{r:V->List V->Hp->VK->Prop}{xs:List Dv}{o:Expr}{to:Tr}(slot:Slot "list" nm id)(D4:typeOf (.builtin id)=pure (.type "method_descriptor"))(hm:∀ i,Pw (F.cx i) id r)(ho:Ev F o ρ to)(eo:er to=.lst xs)(ha:eG F (e::es) ρ ts)(h:∀ G H x vs Q,ai G H->Hv F.K G (er to) x->aO F.K G (cE ts) vs->Kv F.K G H t Q->r x vs H Q){apos:Pos}(ig:∀ i,attributeBase o nm (F.cx i).env (eval o (F.cx i).env)=eval o (F.cx i).env:=by intro _;rfl)(iu:∀ i,((backTo pos (starEach (e::es) (F.cx i).env)).all (fun x=>!x.1)&&(backToKw pos (keywordEach [] (F.cx i).env)).all (fun x=>x.1.isSome)&&decide ((e::es).length+([]:List Keyword).length+(if ([]:List Keyword).isEmpty then 0 else 1)<30))=true:=by intro _;rfl)(hline:(apos.endLine==pos.line)=true:=by rfl)(hs:∀ i,starEach (e::es) (F.cx i).env=(false,eval e (F.cx i).env)::starEach es (F.cx i).env:=by intro _;rfl)(BI:∀ i,(backTo pos (starEach es (F.cx i).env)).any (·.1)=false:=by intro _;rfl) :
  Ev F (.Call (.Attribute o nm apos) (e::es) [] pos) ρ t:=by
 obtain ⟨τ,p,q⟩:=ho.use
 obtain ⟨bK,p',q'⟩:=ha.use
 refine ⟨jz F.K "list" r τ bK,fun i=>F.hK i ▸ me PySem.F.plainAttrs_list slot D4 (hm i) (p i) (p' i) (ig i) (iu i) hline (hs i) (BI i),fun σ G H Q s rr k=>?_⟩
 refine q σ G H _ s rr fun x G1 H1 s1 hx=>⟨?_,q' σ G1 H1 _ s1.s (rr.mono s1.g) fun vs G2 H2 s2 hv=>h G2 H2 x vs Q s2.s (hx.mono s2.g) hv (k.step (s1.trans s2))⟩
 rw [eo] at hx
 obtain ⟨l,us,rfl,h1,h2⟩:=hx
 exact .inl ⟨rfl,_,s1.s.seq h1⟩
theorem JI {n:Int}{ns:List Int}{o:Expr}{to:Tr}(ho:Ev F o ρ to)(eo:er to=dis ns)(ha:Ev F e ρ (ti n)){apos:Pos}(ig:∀ i,attributeBase o "count" (F.cx i).env (eval o (F.cx i).env)=eval o (F.cx i).env:=by intro _;rfl)(iu:∀ i,((backTo pos (starEach [e] (F.cx i).env)).all (fun x=>!x.1)&&(backToKw pos (keywordEach [] (F.cx i).env)).all (fun x=>x.1.isSome)&&decide (([e]:List Expr).length+([]:List Keyword).length+(if ([]:List Keyword).isEmpty then 0 else 1)<30))=true:=by intro _;rfl)(hline:(apos.endLine==pos.line)=true:=by rfl)(hs:∀ i,starEach [e] (F.cx i).env=[(false,eval e (F.cx i).env)]:=by intro _;rfl):Ev F (.Call (.Attribute o "count" apos) [e] [] pos) ρ (ti (ns.count n:Nat)) :=
 Nb (r:=BR F.K) PySem.F.slot_list_count PySem.F.type_list_count (fun i=>F.hK i ▸ JH) ho eo (af ha aq hs) (fun G H x vs Q s hx hv k=>by
  rw [eo] at hx
  obtain ⟨l,us,rfl,h1,h2⟩:=hx
  have:=rT h2
  subst this
  obtain ⟨y,rfl,hy⟩:=kh hv
  refine ⟨l,_,y,rfl,rfl,s.seq h1,by rw [bf hy];rfl,Je ns,?_⟩
  rw [bf hy,Iv]
  exact k.sc s rfl) ig iu hline hs (fun _=>rfl)
theorem Jg {K:PySem.W.Frag}{G:Hp}:∀ {bs:List Bool} {vs:List V},aO K G (bs.map db) vs->vs=bs.map V.bl
 |[],_,h=>h
 |_::_,_,⟨x,r,h1,h2,h3⟩=>by subst h1;rw [bf h2,Jg h3];rfl
theorem u5 {α β:Type}(l:List α)(d : α)(f : α->β):(List.range l.length).map (fun k=>f ((l[k]?).getD d))=l.map f:=by
 refine List.ext_getElem? fun i=>?_
 rw [List.getElem?_map,List.getElem?_map]
 rcases Nat.lt_or_ge i l.length with h | h
 ·rw [List.getElem?_range h,List.getElem?_eq_getElem h]
  show some (f ((l[i]?).getD d))=_
  rw [List.getElem?_eq_getElem h]
  rfl
 ·rw [List.getElem?_eq_none (by simpa using h),List.getElem?_eq_none h]
  rfl
theorem LZ:∀ ds:List Dv,cE (ds.map .fz)=ds
 |[] => rfl
 |d::ds=>by show d::cE (ds.map .fz)=_;rw [LZ ds]
theorem pS (ds:List Dv):er (.ow (ds.map .fz))=.lst ds:=by show Dv.lst _=_;rw [LZ]
theorem Ev.to {t':Tr}(h:Ev F e ρ t)(q:t=t'):Ev F e ρ t':=q ▸ h
theorem Et.to {p q:Bool}(h:Et F e ρ p)(z:p=q):Et F e ρ q:=z ▸ h
theorem ck.to {t':Tr}(h:ck F e ρ t)(q:t=t'):ck F e ρ t':=q ▸ h
theorem nr {A B:List Stmt}{o:Out}{p:Bool}(hc:cX F c ρ p)(hp:p=true)(h1:bC F A ρ o):Rn F (.If c A B pos) ρ o:=wu hc (fun _=>h1) fun h=>by rw [hp] at h;cases h
theorem L6 {A B:List Stmt}{o:Out}{p:Bool}(hc:cX F c ρ p)(hp:p=false)(h1:bC F B ρ o):Rn F (.If c A B pos) ρ o:=wu hc (fun h=>by rw [hp] at h;cases h) fun _=>h1
theorem dG {A:List Stmt}{p:Bool}(hc:cX F c ρ p)(hp:p=false):Rn F (.If c A [] pos) ρ (.nx ρ):=L6 hc hp vI
def N7 (dd:List Dv)(t:Tr):Prop:=∃ ns:List Int,ns.length<=63/\dd=[dis ns]/\t=tb true
def wB (K:PySem.W.Frag):Sp:=fun vs H Q _=>∃ (a:Addr) (ns:List Int),vs=[.ref a]/\aH K H a (ns.map V.int)/\ns.length<=63/\∀ H',Q (.bl true) H'
theorem Yg {P:Program}{w:World}{K:PySem.W.Frag}{mg:Str->Option Value}{base:Heap}{k:Nat}{f:Addr}{fd:FuncData}(F:aM P w K mg base ao k f fd ["_law_script"] (spT K N7)):aM P w K mg base ao k f fd ["_law_script"] (wB K) :=
 F.imp fun vs H Q E ⟨a,ns,e,h1,h2,h3⟩=>⟨H,[dis ns],tb true,ai.refl _,⟨.ref a,[],e,⟨a,_,rfl,h1,rU⟩,rfl⟩,⟨ns,h2,rfl,rfl⟩,fun v G' H' fq st o w=>by rw [bf o.2];exact h3 H'⟩
end
end L2
namespace eJ
def gc (a b:Int):Int:=(Int.gcd a b:Int)
theorem sL {a b:Int}(h:b ≠ 0) : 0<gc a b:=by
 have : 0<Int.gcd a b:=Int.gcd_pos_of_ne_zero_right _ h
 unfold gc;omega
theorem JK (a b:Int):gc a b ∣ a:=Int.gcd_dvd_left ..
theorem JL (a b:Int):gc a b ∣ b:=Int.gcd_dvd_right ..
theorem Wf (a:Int):gc a 0=(a.natAbs:Int):=by unfold gc;rw [Int.gcd_zero_right]
theorem Wg (a:Int){b:Int}:gc b (a % b)=gc a b:=by
 unfold gc
 congr 1
 apply Nat.dvd_antisymm
 ·refine Int.dvd_gcd ?_ (Int.gcd_dvd_left ..)
  have h1:(↑(Int.gcd b (a % b)):Int) ∣ b:=Int.gcd_dvd_left ..
  have h2:(↑(Int.gcd b (a % b)):Int) ∣ a % b:=Int.gcd_dvd_right ..
  have:=Int.dvd_add (Int.dvd_trans h1 (Int.dvd_mul_right b (a / b))) h2
  rwa [Int.mul_ediv_add_emod] at this
 ·refine Int.dvd_gcd (Int.gcd_dvd_right ..) ?_
  have h1:(↑(Int.gcd a b):Int) ∣ a:=Int.gcd_dvd_left ..
  have h2:(↑(Int.gcd a b):Int) ∣ b:=Int.gcd_dvd_right ..
  rw [Int.emod_def]
  exact Int.dvd_sub h1 (Int.dvd_trans h2 (Int.dvd_mul_right b (a / b)))
theorem Yh (a b:Int):gc (a.natAbs:Int) (b.natAbs:Int)=gc a b:=by
 unfold gc;simp [Int.gcd]
theorem Wh {a b:Int}(h : 0<b):gc a b<=b:=Int.le_of_dvd h (JL a b)
def lT (t b:Int):Int:=(if b<0 then -t else t) / gc t b
def lB (t b:Int):Int:=(b.natAbs:Int) / gc t b
theorem Yi {t b:Int}(h : 0<b):lT t b=t / gc t b:=by unfold lT;rw [if_neg (by omega)]
theorem Yj {t b:Int}(h : 0<b):lB t b=b / gc t b:=by unfold lB;rw [show (b.natAbs:Int)=b by omega]
theorem BU (t b:Int):lT t b*gc t b=if b<0 then -t else t:=by
 unfold lT
 refine Int.ediv_mul_cancel ?_
 split
 ·exact Int.dvd_neg.mpr (JK t b)
 ·exact JK t b
theorem BV (t b:Int):lB t b*gc t b=(b.natAbs:Int):=by
 unfold lB
 refine Int.ediv_mul_cancel ?_
 exact Int.dvd_natAbs.mpr (JL t b)
theorem wC {t b:Int}(h:b ≠ 0) : 1<=lB t b:=by
 have h1:=BV t b
 have h2:=sL (a:=t) h
 have h3 : 0<lB t b:=Int.pos_of_mul_pos_left (by rw [h1];omega) h2
 omega
theorem Zj {t b:Int}(h:b ≠ 0):lB t b<=(b.natAbs:Int):=by
 unfold lB
 exact Int.ediv_le_self _ (by omega)
theorem Yk {t b:Int}(h:b ≠ 0):(lT t b).natAbs<=t.natAbs:=by
 have h1:=BU t b
 have h2:=sL (a:=t) h
 have h3:(lT t b*gc t b).natAbs=t.natAbs:=by rw [h1];split<;>omega
 rw [Int.natAbs_mul] at h3
 have h4 : 1<=(gc t b).natAbs:=by omega
 calc (lT t b).natAbs=(lT t b).natAbs*1:=by omega
  _<=(lT t b).natAbs*(gc t b).natAbs:=Nat.mul_le_mul_left _ h4
  _=t.natAbs:=h3
theorem Bh {t b:Int}(h:b ≠ 0):lT t b*b=t*lB t b:=by
 have h1:=BU t b
 have h2:=BV t b
 have h3:=sL (a:=t) h
 apply Int.eq_of_mul_eq_mul_right (a:=gc t b) (by omega)
 by_cases hb:b<0
 ·rw [if_pos hb] at h1
  have h4:lB t b*gc t b = -b:=by omega
  grind
 ·rw [if_neg hb] at h1
  have h4:lB t b*gc t b=b:=by omega
  grind
theorem Jh {t b:Int}(h:b ≠ 0):Int.gcd (lT t b) (lB t b)=1:=by
 have h1:=BU t b
 have h2:=BV t b
 have h3:=sL (a:=t) h
 have Eh:((Int.gcd (lT t b) (lB t b):Int)) ∣ lT t b:=Int.gcd_dvd_left ..
 have hd2:((Int.gcd (lT t b) (lB t b):Int)) ∣ lB t b:=Int.gcd_dvd_right ..
 have e1:((Int.gcd (lT t b) (lB t b):Int))*gc t b ∣ t:=by
  have:=Int.mul_dvd_mul Eh (Int.dvd_refl (gc t b))
  rw [h1] at this
  split at this
  ·exact Int.dvd_neg.mp this
  ·exact this
 have e2:((Int.gcd (lT t b) (lB t b):Int))*gc t b ∣ b:=by
  have:=Int.mul_dvd_mul hd2 (Int.dvd_refl (gc t b))
  rw [h2] at this
  exact Int.dvd_natAbs.mp this
 have e3:((Int.gcd (lT t b) (lB t b):Int))*gc t b ∣ gc t b:=Int.dvd_coe_gcd e1 e2
 have e4:=Int.le_of_dvd h3 e3
 have e5 : 0<Int.gcd (lT t b) (lB t b):=Int.gcd_pos_of_ne_zero_right _ (by have:=wC (t:=t) h;omega)
 by_cases hh:Int.gcd (lT t b) (lB t b)=1
 ·exact hh
 ·have e6:(2:Int)<=((Int.gcd (lT t b) (lB t b):Nat):Int):=by omega
  have : 2*gc t b<=((Int.gcd (lT t b) (lB t b):Nat):Int)*gc t b:=Int.mul_le_mul_of_nonneg_right e6 (by omega)
  omega
theorem vw {t b p q:Int}(hb:b ≠ 0)(hq : 0<q)(hg:Int.gcd p q=1)(h:p*b=t*q):p=lT t b/\q=lB t b:=by
 have c:=Bh (t:=t) hb
 have g:=Jh (t:=t) hb
 have k:=wC (t:=t) hb
 have e:p*lB t b=lT t b*q:=by
  apply Int.eq_of_mul_eq_mul_right (a:=b) hb
  grind
 have d1:q ∣ lB t b:=by
  have z:q ∣ p*lB t b:=by rw [e];exact Int.dvd_mul_left _ _
  have z':q.natAbs ∣ p.natAbs*(lB t b).natAbs:=by rw [<- Int.natAbs_mul];exact Int.natAbs_dvd_natAbs.mpr z
  have cp:Nat.Coprime q.natAbs p.natAbs:=by
   have:Int.gcd q p=1:=by rw [Int.gcd_comm];exact hg
   exact this
  exact Int.natAbs_dvd_natAbs.mp (cp.dvd_of_dvd_mul_left z')
 have d2:lB t b ∣ q:=by
  have z:lB t b ∣ lT t b*q:=by rw [<- e];exact Int.dvd_mul_left _ _
  have z':(lB t b).natAbs ∣ (lT t b).natAbs*q.natAbs:=by rw [<- Int.natAbs_mul];exact Int.natAbs_dvd_natAbs.mpr z
  have cp:Nat.Coprime (lB t b).natAbs (lT t b).natAbs:=by
   have:Int.gcd (lB t b) (lT t b)=1:=by rw [Int.gcd_comm];exact g
   exact this
  exact Int.natAbs_dvd_natAbs.mp (cp.dvd_of_dvd_mul_left z')
 have eq:q=lB t b:=Int.dvd_antisymm (by omega) (by omega) d1 d2
 refine ⟨?_,eq⟩
 rw [<- eq] at e
 exact Int.eq_of_mul_eq_mul_right (a:=q) (by omega) e
theorem Z3 {t b t' b':Int}(hb:b ≠ 0)(eI:b' ≠ 0)(h:t*b'=t'*b):lT t b=lT t' b'/\lB t b=lB t' b':=by
 refine vw eI (by have:=wC (t:=t) hb;omega) (Jh hb) ?_
 have c:=Bh (t:=t) hb
 apply Int.eq_of_mul_eq_mul_right (a:=b) hb
 grind
end eJ
namespace L2
open PySem PySem.Spec PyProof.Rows
theorem vL {lo:Int}{n j:Nat}{d:Dv}(h:(iz lo n)[j]?=some d):j<n/\d=di (lo+(j:Int)):=by
 rw [List.getElem?_map] at h
 rcases Nat.lt_or_ge j n with hj | hj
 ·rw [List.getElem?_range hj] at h;cases h;exact ⟨hj,rfl⟩
 ·rw [List.getElem?_eq_none (by simpa using hj)] at h;cases h
theorem iV {α β:Type}{f : α->β}{l:List α}{j:Nat}{d : β}(h:(l.map f)[j]?=some d):∃ x,l[j]?=some x/\d=f x:=by
 rw [List.getElem?_map] at h
 cases q:l[j]? with
 |none=>rw [q] at h;cases h
 |some x=>rw [q] at h;cases h;exact ⟨x,rfl,rfl⟩
theorem jR {α:Type}{l:List α}{i:Nat}{x : α}(h:l[i]?=some x):l.take (i+1)=l.take i++[x]:=by rw [List.take_succ,h];rfl
theorem bC.fg {ι:Type}{F:aY ι}{bA:List Stmt}{ρ ρ1 P5:En}(h:bC F bA ρ (.nx ρ1))(f:Fg ρ1 P5):bC F bA ρ (.nx P5):=by
 obtain ⟨τ,x,y⟩:=h
 exact ⟨τ,x,fun D σ G0 H0 G H r k=>y D σ G0 H0 G H r fun az G' H' r'=>k az G' H' (f.rs r')⟩
theorem Im {ι:Type}{F:aY ι}{bA:List Stmt}{ρ:En}{o:Out}{t:Tr}{d:Dv}(j:Nat)(hj : ρ[j]?=some (some t))(e:er t=d)(h:bC F bA (ρ.set j (some (.fz d))) o):bC F bA ρ o:=Ts j hj (e ▸ h)
theorem Io {ι:Type}{F:aY ι}{bA body:List Stmt}{ρ:En}{o:Out}{c:Expr}{pos:Pos}{α:Type}(S : α->En)(Pp : α->Prop)(p : α->Bool)(μ : α->Nat)(a0 : α)(e:S a0=ρ)(h0:Pp a0)(hc:∀ a,Pp a->cX F c (S a) (p a))(hb:∀ a,Pp a->p a=true->∃ a',Pp a'/\μ a' < μ a/\bC F body (S a) (.nx (S a')))(fin:∀ a,Pp a->p a=false->bC F bA (S a) o)(hx:∀ i,(F.cx i).xe=cv:=by intro _;rfl):bC F (.While c body [] pos::bA) ρ o:=by
 subst e
 obtain ⟨a',h1,h2,h3⟩:=zL S Pp p μ hc hb a0 h0 hx
 exact aw h3 (fin a' h1 h2)
def bR (ns:List Int)(k:Int):Int:=ns.getD k.toNat 0
theorem cell_in {ns:List Int}{k:Int}(h0 : 0<=k)(h:k<ns.length):bq (ns.map di) k=some (di (bR ns k)):=by
 obtain ⟨j,rfl⟩:∃ j:Nat,k=(j:Int):=⟨k.toNat,by omega⟩
 have hj:j<ns.length:=by omega
 refine fL ?_
 unfold bR
 rw [List.getElem?_map,List.getElem?_eq_getElem hj,List.getD_eq_getElem?_getD,show (j:Int).toNat=j by omega,List.getElem?_eq_getElem hj]
 rfl
theorem cell_out {ns:List Int}{k:Int}(h0 : 0<=k)(h:ns.length<=k):bR ns k=0:=by
 unfold bR
 rw [List.getD_eq_getElem?_getD,List.getElem?_eq_none (by omega)]
 rfl
theorem Vb {α β:Type}(f : α->β)(l:List α)(a b:Option Int):cutD (l.map f) a b=(cutD l a b).map f:=by
 unfold cutD
 rw [List.length_map,List.map_take,List.map_drop]
theorem Vc {α:Type}(l:List α)(a b:Option Int):(cutD l a b).length<=l.length:=by
 unfold cutD
 rw [List.length_take,List.length_drop]
 omega
mutual
def gY:Dv->Bool
 | .fl v=>eX v
 | .lst ds=>nK ds
 | .tup ds=>nK ds
def nK:List Dv->Bool
 |[] => true
 |d::ds=>gY d&&nK ds
end
mutual
theorem AG:∀ {d:Dv},gY d=true->cN d d=true
 | .fl v,h=>Jy h
 | .lst ds,h=>Af h
 | .tup ds,h=>Af h
theorem Af:∀ {ds:List Dv},nK ds=true->fS ds ds=true
 |[],_=>rfl
 |d::ds,h=>by
  have h':(gY d&&nK ds)=true:=h
  rw [Bool.and_eq_true] at h'
  show (cN d d&&fS ds ds)=true
  rw [AG h'.1,Af h'.2]
  rfl
end
theorem AH {α:Type}{f : α->Dv}(h:∀ a,gY (f a)=true):∀ l:List α,nK (l.map f)=true
 |[] => rfl
 |a::l=>by
  show (gY (f a)&&nK (l.map f))=true
  rw [h a,AH h l]
  rfl
theorem su {n:Nat}:∀ {ds:List Dv},(∀ d ∈ ds,dI d<=n)->dh ds<=n
 |[],_=>Nat.zero_le _
 |d::ds,h=>by
  show max (dI d) (dh ds)<=n
  exact Nat.max_le.mpr ⟨h d (.head _),su fun x hx=>h x (.tail _ hx)⟩
theorem Bi (l:List Int):gY (dis l)=true:=AH (fun _=>rfl) l
theorem vM (l:List Int):dI (dis l)<=1:=by
 show dh _+1<=1
 have:dh (l.map di)<=0:=su fun d hd=>by
  obtain ⟨_,_,rfl⟩:=List.mem_map.mp hd
  exact Nat.le_refl _
 omega
theorem KN {n:Nat}{ds:List Dv}(h:∀ d ∈ ds,dI d<=n):dI (.lst ds)<=n+1:=Nat.succ_le_succ (su h)
theorem Wi {n:Nat}{ds:List Dv}(h:∀ d ∈ ds,dI d<=n):dI (.tup ds)<=n+1:=Nat.succ_le_succ (su h)
theorem Wj {α:Type}{f : α->Dv}(h:∀ a,gY (f a)=true)(l:List α):gY (.lst (l.map f))=true:=AH h l
end L2
namespace L2
open PySem PySem.Spec PyProof.Rows
theorem aG.setAt {K:PySem.W.Frag}{G H:Hp}:∀ {us:List Tr} {vs:List V} {fq:List Addr} {m:Nat} {t:Tr} {v:V} {f:List Addr},aG K G H us vs fq->m<us.length->Ow K G H t v f->fq.Nodup->f.Nodup->(∀ a ∈ f,a ∉ fq) ->
  ∃ fw,aG K G H (us.set m t) (vs.set m v) fw/\fw.Nodup/\∀ a ∈ fw,a ∈ fq\/a ∈ f
 |u::us,_,_,0,t,v,f,⟨w,r,f1,f2,h1,h2,h3,h4⟩,_,o,nd,nf,dj=>by
  subst h1 h2
  have dC:=List.nodup_append.mp nd
  refine ⟨f++f2,⟨v,r,f,f2,rfl,rfl,o,h4⟩,List.nodup_append.mpr ⟨nf,dC.2.1,fun a ha b hb e=>dj a ha (e ▸ List.mem_append_right _ hb)⟩,fun a ha=>?_⟩
  rcases List.mem_append.mp ha with z | z
  ·exact .inr z
  ·exact .inl (List.mem_append_right _ z)
 |u::us,_,_,m+1,t,v,f,⟨w,r,f1,f2,h1,h2,h3,h4⟩,hm,o,nd,nf,dj=>by
  subst h1 h2
  have dC:=List.nodup_append.mp nd
  obtain ⟨fw,q1,q2,q3⟩:=aG.setAt (m:=m) h4 (Nat.lt_of_succ_lt_succ hm) o dC.2.1 nf fun a ha z=>dj a ha (List.mem_append_right _ z)
  refine ⟨f1++fw,⟨w,_,f1,fw,rfl,rfl,h3,q1⟩,List.nodup_append.mpr ⟨dC.1,q2,fun a ha b hb e=>?_⟩,fun a ha=>?_⟩
  ·subst e
   rcases q3 a hb with z | z
   ·exact dC.2.2 a ha a z rfl
   ·exact dj a z (List.mem_append_left _ ha)
  ·rcases List.mem_append.mp ha with z | z
   ·exact .inl (List.mem_append_left _ z)
   ·exact (q3 a z).imp (List.mem_append_right _) id
theorem JM {ι:Type}{F:aY ι}{e:Expr}{ρ:En}{t:Tr}{pos:Pos}(j:Nat){x:Str}{us:List Tr}{n:Int}{m:Nat}{nE:Expr}{p1 p2:Pos}(h : ρ[j]?=some (some (.ow us)))(hn:ck F nE ρ (ti n))(hm:gv us.length n=some m)(he:ck F e ρ t)(hN:∀ i,(F.cx i).N[j]?=some x:=by intro _;rfl)(hv:∀ i,jt (F.cx i).env.scope x:=by intro _;first | exact Or.inl rfl | exact Or.inr (Or.inl rfl) | exact Or.inr (Or.inr rfl))(hd:(x==("__debug__" : Str))=false:=by decide)(hc:(x==("__classdict__" : Str))=false:=by decide)(hs:∀ i,swapsWithSole [.Subscript (.Name x p1) nE p2] e pos.line (F.cx i).env=pure false:=by intro _;rfl)(hw:∀ i,swappedStores [.Subscript (.Name x p1) nE p2] e (F.cx i).env=pure none:=by intro _;rfl)(h1:∀ i,(assignEach [.Subscript (.Name x p1) nE p2] (F.cx i).env).map (·.2)=[assign (.Subscript (.Name x p1) nE p2) (F.cx i).env]:=by intro _;rfl)(hps:∀ i,PG (F.cx i) (.Subscript (.Name x p1) nE p2) (Dj (bT j) (uE F nE) CA)) :
  Rn F (.Assign [.Subscript (.Name x p1) nE p2] e pos) ρ (.nx (ρ.set j (some (.ow (us.set m t))))):=by
 obtain ⟨τ,y,z⟩:=he
 obtain ⟨Ei,yn,zn⟩:=hn
 refine ⟨i3 τ (Dj (bT j) (uE F nE) CA),fun i=>XT (y i) (hps i) (hs i) (hw i) (h1 i),fun D σ G0 H0 G H r k=>?_⟩
 obtain ⟨fp,r⟩:=r
 refine z σ G H fp _ r.st.s r.own r.g fun v1 G1 H1 f1 s1 o1 w1=>?_
 have r1:du F.K G0 H0 G1 H1 ρ σ fp:=⟨r.st.trans s1,r.own.mono s1.g s1.h,r.own.off s1 r.g,r.n,r.d⟩
 obtain ⟨l0,Ea,Eb,c1,c2,_⟩:=r1.mut h (.refl r1.st.s)
 refine ⟨_,c1,Ei,yn,zn σ G1 H1 fp _ r1.st.s r1.own r1.g fun vn G2 H2 f2 s2 o2 w2=>?_⟩
 obtain ⟨l,vs,fq,d1,d2,d3,d4,d5,d6,d7⟩:=r.mut h (s1.trans s2)
 rw [c1] at d1
 cases d1
 have qN:m<us.length:=(vC hm).2.1
 have nf:∀ a ∈ f1,a ∉ fq:=fun a ha hb=>by
  obtain ⟨u,hu⟩:=r.own.there a (d6 a hb)
  rw [w1.n a ha] at hu;cases hu
 obtain ⟨fw,q1,q2,q3⟩:=d4.setAt qN (o1.mono s2.g s2.h) d5 w1.d nf
 refine ⟨l0,vs,n,m,rfl,bf o2.2,d3,by rw [<- d4.length];exact hm,k σ G2 _ (d7 (us.set m t) (vs.set m v1) fw q1 q2 fun a ha=>(q3 a ha).imp id fun z=>⟨w1.n a z,?_⟩)⟩
 cases q:G2 a with
 |none=>rfl
 |some u =>
  obtain ⟨u',bh⟩:=o1.there a z
  have:=s2.n a (w1.g a z) (by rw [q];exact fun z=>nomatch z)
  rw [bh] at this;cases this
def Yl (ta:TA):TE:=fun σ H Q=>ta σ H fun vs H1=>∃ j:Int,vs=[.int j]/\∀ p,H1 p=none->Q (.ref p) (upd H1 p (.cB 0 j))
section
variable {X:Cx}
theorem Ul {a:Expr}{ta:TA}{p pos:Pos}(hg:Gl X "range")(hm:X.mg "range" = none)(ha:PA X [a] ta)(hs:starEach [a] X.env=[(false,eval a X.env)]:=by rfl):PE X (.Call (.Name "range" p) [a] [] pos) (Yl ta):=by
 intro pins s σ H Q I h
 refine Call_ (lS I hg hm boot_range (PyProof.Rows.callWith_type1 (ay (ha pos pins s σ H _ I h) fun us s1 ⟨vs,H1,I1,r1,q1⟩=>?_) hs rfl))
 obtain ⟨j,e,q⟩:=q1
 subst e
 cases r1 with
 |cons r rr =>
  cases rr
  obtain ⟨t,rfl⟩:=r
  refine call_range_1 ⟨.ref _,_,I1.laid (t':=s1.toks+1+1) (o:=.cB 0 j) (fun b ob q=>Heap.get?_push_of_some _ q) (Nat.le_refl _) ?_,rfl,q _ (I1.av.fresh (Nat.le_refl _))⟩
  exact ⟨_,_,_,Heap.get?_push_size _ rfl⟩
theorem R4 (hc:X.calm=true):fB X (.type "list") (fun xs H Q=>∃ p n,xs=[.ref p]/\H p=some (.cB 0 n)/\0<=n/\n<2 ^ 20/\∀ l,H l=none->Q (.ref l) (upd H l (.lst ((List.range n.toNat).map fun i=>.int (0+((i:Nat):Int)))))):=by
 intro pins s σ H xs us Q I r h
 obtain ⟨p,n,rfl,hH,h0,h1,q⟩:=h
 obtain ⟨u,rfl,rx⟩:=vals1 r
 cases rx
 obtain ⟨t,u,v,e⟩:=(show bQ X.prog X.w H s.heap p (.cB 0 n) from I.av p _ hH)
 have Zk:Builtin.Range.rangeSize 0 n 1=(n.toNat:Nat):=by rw [rangeSize_pos (by decide) h0];omega
 refine call_list_range (n:=n.toNat) (I.ok.hd hc) e (Tq h0 (by omega) (by decide) (by decide)) Zk (by omega) fun h' tk N8 c' kp e' it=>?_
 refine ⟨.ref s.heap.objs.size,_,I.laid (t':=tk) (o:=.lst ((List.range n.toNat).map fun i=>.int (0+((i:Nat):Int)))) kp (Nat.le_refl _) ?_,rfl,q _ (I.av.fresh (Nat.le_refl _))⟩
 have hs:sizeLine=16777216:=sizeLine_eq
 refine ⟨by rw [List.length_map,List.length_range];omega,N8.toList,c',?_,by rw [Array.toArray_toList];exact e'⟩
 obtain ⟨i1,i2⟩:=it
 have gen:∀ (l:List Value) (k:Nat),(∀ j v,l[j]?=some v->∃ t,v=Value.int (0+((k+j:Nat):Int)) t)->Vals ((List.range l.length).map fun i=>V.int (0+((k+i:Nat):Int))) l:=by
  intro l
  induction l with
  |nil=>intro k _;exact .nil
  |cons a l ih =>
   intro k hk
   rw [List.length_cons,List.range_succ_eq_map,List.map_cons,List.map_map]
   obtain ⟨t,ht⟩:=hk 0 a rfl
   refine .cons ⟨t,by rw [ht]⟩ ?_
   have:=ih (k+1) (fun j v hj=>by
    obtain ⟨t,ht⟩:=hk (j+1) v hj
    exact ⟨t,by rw [ht,show k+(j+1)=k+1+j by omega]⟩)
   refine (List.map_congr_left fun i _=>?_) ▸ this
   show V.int (0+((k+1+i:Nat):Int))=V.int (0+((k+(i+1):Nat):Int))
   rw [show k+1+i=k+(i+1) by omega]
 have g0:=gen N8.toList 0 fun j v hj=>by
  obtain ⟨t,ht⟩:=i2 j v (by rw [<- Array.getElem?_toList];exact hj)
  refine ⟨t,?_⟩
  rw [ht,Int.mul_one,Nat.zero_add]
 rw [Array.length_toList,i1] at g0
 have e0:((List.range n.toNat).map fun i=>V.int (0+((0+i:Nat):Int)))=(List.range n.toNat).map fun i=>V.int (0+((i:Nat):Int)):=List.map_congr_left fun i _=>by rw [Nat.zero_add]
 rw [e0] at g0
 exact g0
def N9 (K:PySem.W.Frag):List V->Hp->VK->Prop:=fun xs H Q=>∃ (p:Addr) (bs:List Bool),xs=[.ref p]/\aH K H p (bs.map V.bl)/\Q (.bl (bs.any id)) H
theorem range_any (bs:List Bool):((List.range bs.length).any fun i=>(bs[i]?).getD false)=bs.any id:=by
 have:=congrArg (fun l:List Bool=>l.any id) (u5 bs false id)
 simp only [List.any_map,List.map_id] at this
 exact this
theorem Vd (hc:X.calm=true):fB X (.builtin "any") (N9 X.K):=by
 intro pins s σ H xs us Q I r h
 obtain ⟨p,bs,rfl,hq,q⟩:=h
 cases r with
 |cons r1 rr =>
  cases rr
  cases r1
  obtain ⟨its,rv,pl,hz⟩:=I.list hq
  have hb:=U5 rv
  have hl:s.heap.IsList p its.toArray:=pl.isList
  have aZ:p<s.heap.objs.size:=by obtain ⟨_,e,_⟩:=hl;exact Heap.lt_size e
  refine call_any_walk (wpAny_pyIter_list hl ?_)
  refine ⟨s.heap.objs.size,[s.heap.objs.size,p],[s.heap.objs.size],its.toArray.size,_,_,fun i=>(bs[i]?).getD false,rfl,Walks.list (A:=X.A.in1) (I.ok.hd hc) _ p (Nat.ne_of_lt aZ) its.toArray,
   ⟨⟨_,Heap.get?_push_size _ rfl,rfl,rfl⟩,hl.push _⟩,fun i v s' Q' E' hP hQ=>?_,fun h' tk hk=>?_⟩
  ·obtain ⟨b,e,rfl⟩:=hb.get i v (by simpa using hP)
   simp only [e,Option.getD_some] at hQ
   exact wpAny_truthy_bool hQ
  ·have e:((List.range its.toArray.size).any fun i=>(bs[i]?).getD false)=bs.any id:=by
    rw [List.size_toArray,hb.length];exact range_any bs
   rw [e]
   exact ⟨.bl _,H,I.kept (t':=tk) (LSm.kept_iter hk),rfl,q⟩
def unlike (ns:List Int):Nat:=(firstMet (fun i=>ns.getD i 0) ns.length).length
theorem R5 (hc:X.calm=true):fB X (.type "set") (fun xs H Q=>∃ (p:Addr) (ns:List Int),xs=[.ref p]/\aH X.K H p (ns.map V.int)/\ns.length<1000/\∀ l S,H l=none->Q (.ref l) (upd H l (.set S (unlike ns)))):=by
 intro pins s σ H xs us Q I r h
 obtain ⟨p,ns,rfl,hq,hz,q⟩:=h
 obtain ⟨u,rfl,rx⟩:=vals1 r
 cases rx
 obtain ⟨its,rv,pl,_⟩:=I.list hq
 have hi:=intsAre_of rv
 have hl:=rv.length
 rw [List.length_map] at hl
 refine call_set_list (ns:=ns) (I.ok.hd hc) pl.isList (by simpa using hi) (by rw [List.size_toArray,<- hl];exact Nat.lt_of_lt_of_le (Nat.succ_lt_succ hz) (by decide)) fun h' tk hs kp=>?_
 have hsz:its.toArray.size=ns.length:=by rw [List.size_toArray,<- hl]
 rw [hsz] at hs
 exact ⟨.ref s.heap.objs.size,_,I.laid (t':=tk) (o:=.set _ (unlike ns)) (fun b o e=>kp b o (Heap.lt_size e) e) (Nat.le_refl _) hs,rfl,q _ _ (I.av.fresh (Nat.le_refl _))⟩
theorem R6:fB X (.builtin "len") (fun xs H Q=>∃ p S n,xs=[.ref p]/\H p=some (.set S n)/\Q (.int n) H):=by
 intro pins s σ H xs us Q I r h
 obtain ⟨p,S,n,rfl,hH,q⟩:=h
 obtain ⟨u,rfl,rx⟩:=vals1 r
 cases rx
 obtain ⟨o,es,ep,t,h1,h2,h3,_,_,h4,h5,h6⟩:=(show bQ X.prog X.w H s.heap p (.set S n) from I.av p _ hH)
 subst h6
 refine call_len_set h1 h2 h3 h5 (by have:es.size<4096:=h4;omega) ⟨.int _,H,I.tok _,⟨_,rfl⟩,q⟩
theorem Sy {ns:List Int}(h:ns.Nodup):unlike ns=ns.length:=by
 have gen:∀ i,i<=ns.length->firstMet (fun i=>ns.getD i 0) i=ns.take i:=by
  intro i
  induction i with
  |zero=>intro _;rw [firstMet_zero];simp
  |succ i ih =>
   intro hi
   rw [firstMet_succ,ih (by omega)]
   have hx:ns[i]?=some (ns[i]'(by omega)):=List.getElem?_eq_getElem _
   rw [jR hx]
   have e:ns.getD i 0=ns[i]'(by omega):=by rw [List.getD_eq_getElem?_getD,hx];rfl
   show step_dedup (ns.take i) (ns.getD i 0)=_
   rw [e]
   unfold step_dedup
   have:((ns.take i).any (·==ns[i]'(by omega)))=false:=by
    rw [Bool.eq_false_iff]
    intro z
    obtain ⟨y,hy,hyy⟩:=List.any_eq_true.mp z
    have cW:y=ns[i]'(by omega):=by simpa using hyy
    subst cW
    obtain ⟨j,hj,P6⟩:=List.mem_iff_getElem.mp hy
    rw [List.getElem_take] at P6
    rw [List.length_take] at hj
    have:=(List.getElem_inj (xs:=ns) h).mp P6
    omega
   rw [this]
   rfl
 unfold unlike
 rw [gen ns.length (Nat.le_refl _),List.take_length]
theorem Sz:fB X (.builtin "sorted") (fun xs H Q=>∃ (p:Addr) (ns:List Int),xs=[.ref p]/\aH X.K H p (ns.map V.int)/\ns.length<64/\∀ (l:Addr) (ms:List Int),H l=none->ms.Perm ns->ms.Pairwise (· <= ·)->Q (.ref l) (upd H l (.lst (ms.map V.int)))):=by
 intro pins s σ H xs us Q I r h
 obtain ⟨p,ns,rfl,hq,hz,q⟩:=h
 obtain ⟨u,rfl,rx⟩:=vals1 r
 cases rx
 obtain ⟨its,rv,pl,dX⟩:=I.list hq
 have hl:=rv.length
 rw [List.length_map] at hl
 refine sorted_ints pl.isList (intsAre_of rv) (by omega) fun out ms io pm pw=>?_
 obtain ⟨e,he⟩:=sortedAll_at s.heap its out
 refine ⟨.ref (s.heap.objs.size+1),_,I.laid (t':=s.toks) (o:=.lst (ms.map V.int)) (fun b o e=>sortedAll_old e) (Nat.le_succ _) ?_,rfl,q _ ms (I.av.fresh (Nat.le_succ _)) pm pw⟩
 refine ⟨by rw [List.length_map,pm.length_eq];rw [List.length_map] at dX;exact dX,out.toList,e,Ac io,by rw [Array.toArray_toList];exact he⟩
end
section
variable {ι:Type}{F:aY ι}{e a b c:Expr}{es:List Expr}{ρ:En}{t ta tb':Tr}{ts:List Tr}{pos:Pos}
theorem jW (l:List Int):(l.map di).map Tr.fz=l.map fun n=>Tr.fz (di n):=by rw [List.map_map];rfl
theorem Ip {n:Int}(hm:F.mg "list" = none)(n5:F.mg "range" = none)(ha:Ev F a ρ (ti n))(h0 : 0<=n)(h1:n<2 ^ 20){p1 p2 nL:Pos}(hg:∀ i,Gl (F.cx i) "list" := by intro _;rfl)(n6:∀ i,Gl (F.cx i) "range" := by intro _;rfl)(hs:∀ i,starEach [a] (F.cx i).env=[(false,eval a (F.cx i).env)]:=by intro _;rfl)(gy:∀ i,starEach [.Call (.Name "range" p2) [a] [] nL] (F.cx i).env=[(false,eval (.Call (.Name "range" p2) [a] [] nL) (F.cx i).env)]:=by intro _;rfl) :
  Ev F (.Call (.Name "list" p1) [.Call (.Name "range" p2) [a] [] nL] [] pos) ρ (.ow (((List.range n.toNat).map fun i=>(0+((i:Nat):Int))).map fun n=>.fz (di n))):=by
 obtain ⟨τ,p,q⟩:=ha.use
 refine ⟨_,fun i=>vg (R4 (F.calm i)) (hg i) ((F.hm i).symm ▸ hm) Bf (aF (Ul (n6 i) ((F.hm i).symm ▸ n5) (aF (p i) bu (hs i)) (hs i)) bu (gy i)) (by decide) (by decide) (gy i) rfl,fun σ G H Q s rr k=>q σ G H _ s rr fun x G1 H1 s1 hx=>?_⟩
 refine ⟨n,by rw [bf hx],fun p0 xP=>⟨p0,n,rfl,bE,h0,h1,fun l hl=>?_⟩⟩
 have k2:=k.step (s1.trans (Step.gO (o:=.cB 0 n) s1.s xP))
 have e:((List.range n.toNat).map fun i=>V.int (0+((i:Nat):Int)))=((List.range n.toNat).map fun i=>(0+((i:Nat):Int))).map V.int:=by rw [List.map_map];rfl
 rw [e]
 refine k2.lst (s1.s.trans (ai.new xP)) ?_ hl
 rw [<- jW]
 exact rU.gW
theorem BW {bs:List Bool}(hm:F.mg "any" = none)(ha:Ev F e ρ ta)(ea:er ta=.lst (bs.map db)){p':Pos}(hg:∀ i,Gl (F.cx i) "any" := by intro _;rfl)(hs:∀ i,starEach [e] (F.cx i).env=[(false,eval e (F.cx i).env)]:=by intro _;rfl):Ev F (.Call (.Name "any" p') [e] [] pos) ρ (tb (bs.any id)) :=
 vt (r:=N9 F.K) (fun i=>F.hK i ▸ Vd (F.calm i)) hm X4 (af ha aq hs) (fun G H vs Q s hx k=>by
  obtain ⟨x,rfl,gX⟩:=kh hx
  rw [ea] at gX
  obtain ⟨l,ys,rfl,h1,h2⟩:=gX
  have:=Jg h2
  subst this
  exact ⟨l,bs,rfl,s.seq h1,k.sc s rfl⟩) hg (by decide) (by decide) hs (fun _=>rfl)
theorem Ym:bootBuiltins "set" = some (.type "set"):=by decide +kernel
theorem Um {ns:List Int}(hm:F.mg "len" = none)(n5:F.mg "set" = none)(ha:Ev F a ρ ta)(ea:er ta=dis ns)(hz:ns.length<1000){p1 p2 nL:Pos}(hg:∀ i,Gl (F.cx i) "len" := by intro _;rfl)(n6:∀ i,Gl (F.cx i) "set" := by intro _;rfl)(hs:∀ i,starEach [a] (F.cx i).env=[(false,eval a (F.cx i).env)]:=by intro _;rfl)(gy:∀ i,starEach [.Call (.Name "set" p2) [a] [] nL] (F.cx i).env=[(false,eval (.Call (.Name "set" p2) [a] [] nL) (F.cx i).env)]:=by intro _;rfl) :
  Ev F (.Call (.Name "len" p1) [.Call (.Name "set" p2) [a] [] nL] [] pos) ρ (ti (unlike ns:Nat)):=by
 obtain ⟨τ,p,q⟩:=ha.use
 refine ⟨jy _ (bY (jy (fun xs H Q=>∃ (p:Addr) (ns:List Int),xs=[.ref p]/\aH F.K H p (ns.map V.int)/\ns.length<1000/\∀ l S,H l=none->Q (.ref l) (upd H l (.set S (unlike ns)))) (bY τ cI)) cI),fun i=>d8 R6 (hg i) ((F.hm i).symm ▸ hm) BM (aF (vg (F.hK i ▸ R5 (F.calm i)) (n6 i) ((F.hm i).symm ▸ n5) Ym (aF (p i) bu (hs i)) (by decide) (by decide) (hs i) rfl) bu (gy i)) (by decide) (by decide) (gy i) rfl,fun σ G H Q s rr k=>q σ G H _ s rr fun x G1 H1 s1 hx=>?_⟩
 rw [ea] at hx
 obtain ⟨l,ys,rfl,h1,h2⟩:=hx
 have:=rT h2
 subst this
 refine ⟨l,ns,rfl,s1.s.seq h1,hz,fun l0 S xQ=>⟨l0,S,_,rfl,bE,?_⟩⟩
 exact (k.step (s1.trans (Step.gO (o:=.set S (unlike ns)) s1.s xQ))).sc (s1.s.trans (ai.new xQ)) rfl
def sortI (ns:List Int):List Int:=ns.mergeSort (fun a b=>decide (a<=b))
theorem sortI_perm (ns:List Int):(sortI ns).Perm ns:=List.mergeSort_perm ..
theorem JN (ns:List Int):(sortI ns).Pairwise (· <= ·):=by
 have:=List.pairwise_mergeSort (le:=fun a b:Int=>decide (a<=b)) (fun a b c h1 h2=>by simp only [decide_eq_true_eq] at *;omega) (fun a b=>by simp only [Bool.or_eq_true,decide_eq_true_eq];omega) ns
 exact this.imp fun h=>by simpa using h
theorem Iw {a b:List Int}(p:a.Perm b)(ha:a.Pairwise (· <= ·))(hb:b.Pairwise (· <= ·)):a=b:=List.Perm.eq_of_pairwise (fun x y _ _ h1 h2=>Int.le_antisymm h1 h2) ha hb p
theorem Uo {ns:List Int}(hm:F.mg "sorted" = none)(ha:Ev F e ρ ta)(ea:er ta=dis ns)(hz:ns.length<64){p':Pos}(hg:∀ i,Gl (F.cx i) "sorted" := by intro _;rfl)(hs:∀ i,starEach [e] (F.cx i).env=[(false,eval e (F.cx i).env)]:=by intro _;rfl):Ev F (.Call (.Name "sorted" p') [e] [] pos) ρ (.ow ((sortI ns).map fun n=>.fz (di n))) :=
 vt (r:=fun xs H Q=>∃ (p:Addr) (ns:List Int),xs=[.ref p]/\aH F.K H p (ns.map V.int)/\ns.length<64/\∀ (l:Addr) (ms:List Int),H l=none->ms.Perm ns->ms.Pairwise (· <= ·)->Q (.ref l) (upd H l (.lst (ms.map V.int)))) (fun i=>F.hK i ▸ Sz) hm Jd (af ha aq hs) (fun G H vs Q s hx k=>by
  obtain ⟨x,rfl,gX⟩:=kh hx
  rw [ea] at gX
  obtain ⟨l,ys,rfl,h1,h2⟩:=gX
  have:=rT h2
  subst this
  refine ⟨l,ns,rfl,s.seq h1,hz,fun l0 ms xQ pm pw=>?_⟩
  have em:ms=sortI ns:=Iw (pm.trans (sortI_perm ns).symm) pw (JN ns)
  subst em
  refine k.lst s ?_ xQ
  rw [<- jW]
  exact rU.gW) hg (by decide) (by decide) hs (fun _=>rfl)
theorem JO {K:PySem.W.Frag}{G:Hp}:∀ {ws:List V} {vs:List V},aO K G (ws.map .fl) vs->vs=ws/\ws.all eX=true
 |[],_,h=>⟨h,rfl⟩
 |_::_,_,⟨x,r,h1,h2,h3⟩=>by
  obtain ⟨e1,e2⟩:=JO h3
  subst h1
  refine ⟨by rw [h2.1,e1],?_⟩
  rw [List.all_cons,e2,h2.2]
  rfl
theorem Up {v:V}{ws:List V}{o:Expr}{to:Tr}(ho:Ev F o ρ to)(eo:er to=.lst (ws.map .fl))(ha:Ev F e ρ (.fz (.fl v))){apos:Pos}(ig:∀ i,attributeBase o "count" (F.cx i).env (eval o (F.cx i).env)=eval o (F.cx i).env:=by intro _;rfl)(iu:∀ i,((backTo pos (starEach [e] (F.cx i).env)).all (fun x=>!x.1)&&(backToKw pos (keywordEach [] (F.cx i).env)).all (fun x=>x.1.isSome)&&decide (([e]:List Expr).length+([]:List Keyword).length+(if ([]:List Keyword).isEmpty then 0 else 1)<30))=true:=by intro _;rfl)(hline:(apos.endLine==pos.line)=true:=by rfl)(hs:∀ i,starEach [e] (F.cx i).env=[(false,eval e (F.cx i).env)]:=by intro _;rfl):Ev F (.Call (.Attribute o "count" apos) [e] [] pos) ρ (ti (ws.countP (fun z=>fF z v):Nat)) :=
 Nb (r:=BR F.K) PySem.F.slot_list_count PySem.F.type_list_count (fun i=>F.hK i ▸ JH) ho eo (af ha aq hs) (fun G H x vs Q s hx hv k=>by
  rw [eo] at hx
  obtain ⟨l,us,rfl,h1,h2⟩:=hx
  obtain ⟨rfl,hf⟩:=JO h2
  obtain ⟨y,rfl,hy⟩:=kh hv
  refine ⟨l,_,y,rfl,rfl,s.seq h1,by rw [hy.1];exact hy.2,hf,?_⟩
  rw [hy.1]
  exact k.sc s rfl) ig iu hline hs (fun _=>rfl)
theorem aG.erase {K:PySem.W.Frag}{G H:Hp}:∀ {us:List Tr} {vs:List V} {fq:List Addr} {m:Nat} {u:Tr},aG K G H us vs fq->us[m]?=some u->fq.Nodup->∃ v f fw,vs[m]?=some v/\Ow K G H u v f/\aG K G H (us.eraseIdx m) (vs.eraseIdx m) fw/\fw.Nodup/\f.Nodup/\(∀ a ∈ fw,a ∈ fq)/\(∀ a ∈ f,a ∈ fq)/\∀ a ∈ f,a ∉ fw
 |t::us,_,_,0,u,⟨v,r,f1,f2,h1,h2,h3,h4⟩,hu,nd=>by
  cases hu
  subst h1 h2
  have dC:=List.nodup_append.mp nd
  exact ⟨v,f1,f2,rfl,h3,h4,dC.2.1,dC.1,fun a ha=>List.mem_append_right _ ha,fun a ha=>List.mem_append_left _ ha,fun a ha hb=>dC.2.2 a ha a hb rfl⟩
 |t::us,_,_,m+1,u,⟨v,r,f1,f2,h1,h2,h3,h4⟩,hu,nd=>by
  subst h1 h2
  have dC:=List.nodup_append.mp nd
  obtain ⟨v',f,fw,q1,q2,q3,q4,q5,q6,q7,q8⟩:=aG.erase (m:=m) h4 hu dC.2.1
  refine ⟨v',f,f1++fw,q1,q2,⟨v,_,f1,fw,rfl,rfl,h3,q3⟩,List.nodup_append.mpr ⟨dC.1,q4,fun a ha b hb e=>dC.2.2 a ha b (q6 b hb) e⟩,q5,fun a ha=>?_,fun a ha=>List.mem_append_right _ (q7 a ha),fun a ha hb=>?_⟩
  ·rcases List.mem_append.mp ha with z | z
   ·exact List.mem_append_left _ z
   ·exact List.mem_append_right _ (q6 a z)
  ·rcases List.mem_append.mp hb with z | z
   ·exact dC.2.2 a z a (q7 a ha) rfl
   ·exact q8 a ha z
theorem R7 (j j2:Nat){x y:Str}{us ws:List Tr}{d:Dv}{n:Int}{m:Nat}{nE:Expr}{p1 p2 p3 p4 p5 p6:Pos}(Ej:j ≠ j2)(h : ρ[j]?=some (some (.ow us)))(h2 : ρ[j2]?=some (some (.ow ws)))(hn:ck F nE ρ (ti n))(hm:gv ws.length n=some m)(hb : -(2 ^ 62)<=n/\n<2 ^ 62)(hu:ws[m]?=some (.fz d))(hz:us.length<sizeLine)(hN:∀ i,(F.cx i).N[j]?=some x:=by intro _;rfl)(hN2:∀ i,(F.cx i).N[j2]?=some y:=by intro _;rfl)(hv:∀ i,jt (F.cx i).env.scope x:=by intro _;first | exact Or.inl rfl | exact Or.inr (Or.inl rfl) | exact Or.inr (Or.inr rfl))(hv2:∀ i,jt (F.cx i).env.scope y:=by intro _;first | exact Or.inl rfl | exact Or.inr (Or.inl rfl) | exact Or.inr (Or.inr rfl))(hd:(x==("__debug__" : Str))=false:=by decide)(hc:(x==("__classdict__" : Str))=false:=by decide)(hd2:(y==("__debug__" : Str))=false:=by decide)(hc2:(y==("__classdict__" : Str))=false:=by decide)(ig:∀ i,attributeBase (.Name x p1) "append" (F.cx i).env (eval (.Name x p1) (F.cx i).env)=eval (.Name x p1) (F.cx i).env:=by intro _;rfl)(Yn:∀ i,attributeBase (.Name y p4) "pop" (F.cx i).env (eval (.Name y p4) (F.cx i).env)=eval (.Name y p4) (F.cx i).env:=by intro _;rfl)(iu:∀ i,((backTo p3 (starEach [.Call (.Attribute (.Name y p4) "pop" p5) [nE] [] p6] (F.cx i).env)).all (fun x=>!x.1)&&(backToKw p3 (keywordEach [] (F.cx i).env)).all (fun x=>x.1.isSome)&&decide (([.Call (.Attribute (.Name y p4) "pop" p5) [nE] [] p6]:List Expr).length+([]:List Keyword).length+(if ([]:List Keyword).isEmpty then 0 else 1)<30))=true:=by intro _;rfl)(Zm:∀ i,((backTo p6 (starEach [nE] (F.cx i).env)).all (fun x=>!x.1)&&(backToKw p6 (keywordEach [] (F.cx i).env)).all (fun x=>x.1.isSome)&&decide (([nE]:List Expr).length+([]:List Keyword).length+(if ([]:List Keyword).isEmpty then 0 else 1)<30))=true:=by intro _;rfl)(hline:(p2.endLine==p3.line)=true:=by rfl)(Yo:(p5.endLine==p6.line)=true:=by rfl)(hs:∀ i,starEach [.Call (.Attribute (.Name y p4) "pop" p5) [nE] [] p6] (F.cx i).env=[(false,eval (.Call (.Attribute (.Name y p4) "pop" p5) [nE] [] p6) (F.cx i).env)]:=by intro _;rfl)(gy:∀ i,starEach [nE] (F.cx i).env=[(false,eval nE (F.cx i).env)]:=by intro _;rfl)(gx:∀ i,swapsWith (.Call (.Attribute (.Name x p1) "append" p2) [.Call (.Attribute (.Name y p4) "pop" p5) [nE] [] p6] [] p3) none pos.line (F.cx i).env=pure false:=by intro _;rfl) :
  Rn F (.Expr (.Call (.Attribute (.Name x p1) "append" p2) [.Call (.Attribute (.Name y p4) "pop" p5) [nE] [] p6] [] p3) pos) ρ (.nx ((ρ.set j2 (some (.ow (ws.eraseIdx m)))).set j (some (.ow (us++[.fz d]))))):=by
 obtain ⟨Ei,yn,zn⟩:=hn
 refine ⟨gL (jz F.K "list" sf (bT j) (bY (jz F.K "list" LJ (bT j2) (bY Ei cI)) cI)),fun i=>lQ (F.hK i ▸ me PySem.F.plainAttrs_list PySem.F.slot_list_append PySem.F.type_list_append mY (ni (hN i) (hv i) hd hc) (aF (me PySem.F.plainAttrs_list PySem.F.slot_list_pop PySem.F.type_list_pop UY (ni (hN2 i) (hv2 i) hd2 hc2) (aF (yn i) bu (gy i)) (Yn i) (Zm i) Yo (gy i) rfl) bu (hs i)) (ig i) (iu i) hline (hs i) rfl) (gx i),fun D σ G0 H0 G H r k=>?_⟩
 obtain ⟨fp,r⟩:=r
 obtain ⟨l0,Ea,Eb,c1,c2,_⟩:=r.mut h (.refl r.st.s)
 obtain ⟨l2,vs2,fq2,e1,e2,_⟩:=r.mut h2 (.refl r.st.s)
 refine ⟨_,c1,.inl ⟨rfl,_,aH.of c2⟩,_,e1,.inl ⟨rfl,_,aH.of e2⟩,?_⟩
 refine zn σ G H fp _ r.st.s r.own r.g fun vn G1 H1 f1 s1 o1 w1=>?_
 obtain ⟨l,vs,fq,d1,d2,d3,d4,d5,d6,d7⟩:=r.mut h2 s1
 rw [e1] at d1
 cases d1
 obtain ⟨v,f,fw,g1,g2,g3,g4,g5,g6,g7,g8⟩:=d4.erase hu d5
 obtain ⟨rfl,ur⟩:=g2
 obtain ⟨ix1,ix2,ix3,ix4⟩:=vC hm
 refine ⟨l2,vs,n,m,v,rfl,by rw [bf o1.2],d3,by omega,by omega,by rw [<- d4.length];exact ix1,g1,?_⟩
 have r2:=d7 (ws.eraseIdx m) (vs.eraseIdx m) fw g3 g4 fun a ha=>.inl (g6 a ha)
 obtain ⟨fp2,r2⟩:=r2
 have uv:(ρ.set j2 (some (.ow (ws.eraseIdx m))))[j]?=some (some (.ow us)):=by rw [List.getElem?_set_ne (Ne.symm Ej)];exact h
 obtain ⟨l3,P7,fq3,b1,b2,b3,b4,b5,b6,b7⟩:=r2.mut uv (.refl r2.st.s)
 rw [c1] at b1
 cases b1
 refine ⟨l0,P7,v,rfl,rfl,b2,by rw [<- b4.length];exact hz,k σ G1 _ ?_⟩
 exact b7 (us++[.fz d]) (P7++[v]) (fq3++([]++[])) (b4.append (us:=[.fz d]) ⟨v,[],[],[],rfl,rfl,⟨rfl,ur⟩,rfl,rfl⟩) (by simpa using b5) fun a ha=>.inl (by simpa using ha)
end
theorem Bj {xs:List Dv}{k:Nat}{d:Dv}(h:(kP xs)[k]?=some d):∃ x,xs[k]?=some x/\d=.tup [di (k:Nat),x]:=by
 unfold kP at h
 rw [List.getElem?_zipWith] at h
 cases hx:xs[k]? with
 |none =>
  rw [hx] at h
  cases q2:(List.range xs.length)[k]? with
  |none=>rw [q2] at h;cases h
  |some z=>rw [q2] at h;cases h
 |some x =>
  have lj:k<xs.length:=(List.getElem?_eq_some_iff.mp hx).1
  rw [hx,List.getElem?_range lj] at h
  cases h
  exact ⟨x,rfl,rfl⟩
theorem KO (xs:List Dv):(kP xs).length=xs.length:=by unfold kP;rw [List.length_zipWith,List.length_range,Nat.min_self]
theorem v8 {α:Type}(l:List α)(f : α->Int):er (.ow (l.map fun k=>Tr.fz (di (f k))))=dis (l.map f):=by
 show Dv.lst _=Dv.lst _
 rw [kC,List.map_map,List.map_map];rfl
theorem Ve (ws:List V):er (.ow (ws.map fun v=>Tr.fz (.fl v)))=.lst (ws.map .fl):=by
 show Dv.lst _=Dv.lst _
 rw [kC,List.map_map];rfl
abbrev aR (l:List Int):Tr:=.ow (l.map fun n=>.fz (di n))
abbrev d9 (L:List (List Int)):Tr:=.ow (L.map aR)
theorem gf (l:List Int):er (aR l)=dis l:=by
 show Dv.lst _=_
 rw [kC,List.map_map];rfl
theorem JP (L:List (List Int)):er (d9 L)=.lst (L.map dis):=by
 show Dv.lst _=_
 rw [kC,List.map_map]
 congr 1
 exact List.map_congr_left fun l _=>gf l
theorem JQ:∀ L:List (List Int),nJ (L.map aR)
 |[] => True.intro
 |l::L=>⟨sr l,JQ L⟩
theorem Vf (L:List (List Int)):gY (.lst (L.map dis))=true:=Wj Bi L
theorem Vg (L:List (List Int)):dI (.lst (L.map dis))<=2:=KN fun d hd=>by
 obtain ⟨m,_,rfl⟩:=List.mem_map.mp hd
 exact vM m
def aW (c:List Int)(os:List (List Int)):Dv:=.tup [dis c,.lst (os.map dis)]
theorem Wk (c:List Int)(os:List (List Int)):gY (aW c os)=true:=by
 show (gY (dis c)&&(gY (.lst (os.map dis))&&true))=true
 rw [Bi,Vf];rfl
theorem Wl (c:List Int)(os:List (List Int)):dI (aW c os)<=3:=Wi fun d hd=>by
 rcases List.mem_cons.mp hd with rfl | hd
 ·exact Nat.le_trans (vM c) (by decide)
 ·rw [List.mem_singleton.mp hd];exact Vg os
def mn (n:Nat)(o:List Int):List Int:=((List.range n).filter fun k=>!o.contains (0+((k:Nat):Int))).map fun k=>0+((k:Nat):Int)
def bb (n:Nat)(o:List Int):List Int:=o++[(n:Int)]++mn n o
theorem Ag (n:Nat)(o:List Int):(mn n o).length<=n:=by
 unfold mn
 rw [List.length_map]
 have:=List.length_filter_le (fun k=>!o.contains (0+((k:Nat):Int))) (List.range n)
 rwa [List.length_range] at this
theorem Vh {α:Type}{l:List α}{k:Nat}{x : α}(h:l[k]?=some x):bq l ((k:Nat):Int)=some x:=fL h
structure bS (c:List Int) (os:List (List Int)):Prop where
 c6:c.length<=6
 cnt:∀ x ∈ c,0<=x/\x<=9
 o1 : 1<=os.length
 o6:os.length<=6
 nd:∀ o ∈ os,o.Nodup
 cB:∀ o ∈ os,∀ x ∈ o,0<=x/\x<c.length
theorem Ah {n:Nat}{l:List Int}(nd:l.Nodup)(h:∀ x ∈ l,0<=x/\x<n):l.length<=n:=by
 have sub:l ⊆ (List.range n).map fun k=>((k:Nat):Int):=fun x hx=>by
  obtain ⟨h0,h1⟩:=h x hx
  exact List.mem_map.mpr ⟨x.toNat,List.mem_range.mpr (by omega),by omega⟩
 have:=nd.length_le_of_subset sub
 simpa using this
theorem bS.iB {c:List Int}{os:List (List Int)}(h:bS c os){o:List Int}(ho:o ∈ os):o.length<=6:=Nat.le_trans (Ah (h.nd o ho) (h.cB o ho)) h.c6
theorem bJ.to {ι:Type}{F:aY ι}{tg iter:Expr}{ρ:En}{a b:List Dv}(h:bJ F tg iter ρ a)(e:a=b):bJ F tg iter ρ b:=e ▸ h
theorem IK {α:Type}:∀ {l:List α} {m:Nat} (h:m<l.length),(l[m]::l.eraseIdx m).Perm l
 |x::l,0,_=>.refl _
 |x::l,m+1,h=>by
  have h':m<l.length:=by simpa using h
  show (l[m]::x::l.eraseIdx m).Perm (x::l)
  exact (List.Perm.swap ..).trans ((IK h').cons x)
theorem Ji {α β:Type}(f : α->β):∀ (l:List α) (m:Nat),(l.map f).eraseIdx m=(l.eraseIdx m).map f
 |[],_=>rfl
 |_::_,0=>rfl
 |x::l,m+1=>by
  show f x::(l.map f).eraseIdx m=f x::(l.eraseIdx m).map f
  rw [Ji f l m]
section
variable {ι:Type}{F:aY ι}{e a b c:Expr}{es:List Expr}{ρ:En}{t ta tb':Tr}{ts:List Tr}{pos:Pos}
theorem AI {α β:Type}(q : α->Bool)(h : α->β)(d : β):∀ l:List α,((List.range l.length).filter fun k=>((l[k]?).map q).getD false).map (fun k=>((l[k]?).map h).getD d)=(l.filter q).map h
 |[] => rfl
 |a::l=>by
  have ih:=AI q h d l
  rw [List.length_cons,List.range_succ_eq_map,List.filter_cons,List.filter_cons,List.filter_map]
  show List.map _ (if q a=true then _ else _)=_
  cases q a with
  |true =>
   show h a::((_:List Nat).map Nat.succ).map _=h a::_
   rw [List.map_map,<- ih];rfl
  |false =>
   show ((_:List Nat).map Nat.succ).map _=_
   rw [List.map_map];exact ih
variable {js:List Nat}{sp:Dv->Option (List Dv)}{elt tg iter:Expr}
theorem Oa {α:Type}(l:List α)(g : α->Dv)(q : α->Bool)(h : α->Tr){ifs:List Expr}{sc:Scope}{own:List Str}{fr:List Nat}{cl : ι->List (Str×Addr)}(hi:bJ F tg iter ρ (l.map g))(hg:jD (cH F own fr sc cl) tg js sp)(jE:∀ j ∈ js,j<own.length)(hz:l.length<sizeLine)(step:∀ a ∈ l,∃ dd,sp (g a)=some dd/\El (cH F own fr sc cl) ifs (bN js (dd.map .fz) (cC own fr ρ)) (q a)/\(q a=true->Ev (cH F own fr sc cl) elt (bN js (dd.map .fz) (cC own fr ρ)) (h a)))(iY:∀ dd:List Dv,hU js (bN js (dd.map .fz) (cC own fr ρ))=cC own fr ρ):fh F own fr sc cl elt tg iter ifs ρ (.ow ((l.filter q).map h)):=by
 have:=xM (ifs:=ifs) hi hg jE (fun k=>((l[k]?).map q).getD false) (fun k=>((l[k]?).map h).getD tn) (by rw [List.length_map];exact hz) (fun k d hd=>by
  obtain ⟨a,ha,rfl⟩:=iV hd
  obtain ⟨dd,s1,s2,s3⟩:=step a (List.mem_of_getElem? ha)
  refine ⟨dd,s1,?_,?_⟩
  ·show El _ _ _ (((l[k]?).map q).getD false)
   rw [ha];exact s2
  ·show ((l[k]?).map q).getD false=true->Ev _ _ _ (((l[k]?).map h).getD tn)
   rw [ha];exact s3) iY
 rw [List.length_map,AI] at this
 exact this
theorem tO {α:Type}(l:List α)(g : α->Dv)(h : α->Tr){sc:Scope}{own:List Str}{fr:List Nat}{cl : ι->List (Str×Addr)}(hi:bJ F tg iter ρ (l.map g))(hg:jD (cH F own fr sc cl) tg js sp)(jE:∀ j ∈ js,j<own.length)(hz:l.length<sizeLine)(step:∀ a ∈ l,∃ dd,sp (g a)=some dd/\Ev (cH F own fr sc cl) elt (bN js (dd.map .fz) (cC own fr ρ)) (h a))(iY:∀ dd:List Dv,hU js (bN js (dd.map .fz) (cC own fr ρ))=cC own fr ρ):fh F own fr sc cl elt tg iter [] ρ (.ow (l.map h)):=by
 have:=Oa l g (fun _=>true) h hi hg jE hz (fun a ha=>let ⟨dd,s1,s2⟩:=step a ha;⟨dd,s1,v7,fun _=>s2⟩) iY
 rwa [List.filter_eq_self.mpr fun _ _=>rfl] at this
theorem pT {α:Type}(l:List α)(g : α->Dv)(q : α->Bool)(h : α->Tr){ifs:List Expr}{sc:Scope}{own:List Str}{fr:List Nat}{cl : ι->List (Str×Addr)}(L:∀ i,hJ (F.cx i) sc (cl i) fr)(hi:bJ F tg iter ρ (l.map g))(hg:jD (cH F own fr sc cl) tg js sp)(jE:∀ j ∈ js,j<own.length)(hz:l.length<sizeLine)(step:∀ a ∈ l,∃ dd,sp (g a)=some dd/\El (cH F own fr sc cl) ifs (bN js (dd.map .fz) (cC own fr ρ)) (q a)/\(q a=true->Ev (cH F own fr sc cl) elt (bN js (dd.map .fz) (cC own fr ρ)) (h a)))(iY:∀ dd:List Dv,hU js (bN js (dd.map .fz) (cC own fr ρ))=cC own fr ρ)(hs:∀ i x,foldedSetIterable iter (F.cx i).env x=pure x:=by intro _ _;rfl):Ev F (.ListComp elt [⟨tg,iter,ifs,0⟩] sc pos) ρ (.ow ((l.filter q).map h)):=by
 have:=sW (ifs:=ifs) (pos:=pos) L hi hg jE (fun k=>((l[k]?).map q).getD false) (fun k=>((l[k]?).map h).getD tn) (by rw [List.length_map];exact hz) (fun k d hd=>by
  obtain ⟨a,ha,rfl⟩:=iV hd
  obtain ⟨dd,s1,s2,s3⟩:=step a (List.mem_of_getElem? ha)
  refine ⟨dd,s1,?_,?_⟩
  ·show El _ _ _ (((l[k]?).map q).getD false)
   rw [ha];exact s2
  ·show ((l[k]?).map q).getD false=true->Ev _ _ _ (((l[k]?).map h).getD tn)
   rw [ha];exact s3) iY hs
 rw [List.length_map,AI] at this
 exact this
theorem jm {α:Type}(l:List α)(g : α->Dv)(h : α->Tr){sc:Scope}{own:List Str}{fr:List Nat}{cl : ι->List (Str×Addr)}(L:∀ i,hJ (F.cx i) sc (cl i) fr)(hi:bJ F tg iter ρ (l.map g))(hg:jD (cH F own fr sc cl) tg js sp)(jE:∀ j ∈ js,j<own.length)(hz:l.length<sizeLine)(step:∀ a ∈ l,∃ dd,sp (g a)=some dd/\Ev (cH F own fr sc cl) elt (bN js (dd.map .fz) (cC own fr ρ)) (h a))(iY:∀ dd:List Dv,hU js (bN js (dd.map .fz) (cC own fr ρ))=cC own fr ρ)(hs:∀ i x,foldedSetIterable iter (F.cx i).env x=pure x:=by intro _ _;rfl):Ev F (.ListComp elt [⟨tg,iter,[],0⟩] sc pos) ρ (.ow (l.map h)):=by
 have:=pT (pos:=pos) l g (fun _=>true) h L hi hg jE hz (fun a ha=>let ⟨dd,s1,s2⟩:=step a ha;⟨dd,s1,v7,fun _=>s2⟩) iY hs
 rwa [List.filter_eq_self.mpr fun _ _=>rfl] at this
theorem fk {α:Type}(l:List α)(h : α->Tr):er (.ow (l.map h))=.lst (l.map fun a=>er (h a)):=by
 show Dv.lst (cE _)=_
 rw [kC,List.map_map];rfl
end
end L2
namespace L2
open PySem PySem.Spec PyProof.Rows eJ
section
variable {ι:Type}{F:aY ι}{e a b c:Expr}{es:List Expr}{ρ:En}{t ta tb':Tr}{ts:List Tr}{pos:Pos}
theorem lO {k:Nat}{f:Addr}{fd:FuncData}{ps:List Str}{R:List Dv->Tr->Prop}{x:Str}{n:Int}{tk:Tok}(Fn:Kn F.P F.w F.K F.mg F.base ao k x f fd ps (spT F.K R))(B:Binds F.K fd ps [.int n tk])(hk:k<=F.room)(ha:eG F (e::es) ρ ts)(hR:R (cE ts++[di n]) t){p':Pos}(hg:∀ i,Gl (F.cx i) x:=by intro _;rfl)(hdb:(x==("__debug__" : Str))=false:=by decide)(he:∀ i,starEach (e::es) (F.cx i).env=(false,eval e (F.cx i).env)::starEach es (F.cx i).env:=by intro _;rfl)(bW:∀ i,(backTo pos (starEach es (F.cx i).env)).any (·.1)=false:=by intro _;rfl):Ev F (.Call (.Name x p') (e::es) [] pos) ρ t:=by
 obtain ⟨τ,y,z⟩:=ha.use
 refine ⟨kG (spT F.K R) [.int n] E0 τ,fun i=>?_,fun σ G H Q s rr k=>z σ G H _ s rr fun vs G1 H1 s1 hx=>?_⟩
 ·have iK:Kn (F.cx i).prog (F.cx i).w (F.cx i).K (F.cx i).mg (F.cx i).base ao k x f fd ps (spT F.K R):=by
   rw [F.hP i,F.hw i,F.hK i,F.hm i,F.hb i]
   exact Fn
  exact Ba iK.ok ((F.hr i).mono hk) (hg i) iK.mL iK.kp (by rw [F.hK i];exact B) (.cons ⟨tk,rfl⟩ .nil) CB (y i) hdb (he i) (bW i)
 ·show spT F.K R (vs++[.int n]) H1 Q E0
  have app:∀ {ds:List Dv} {vs:List V},aO F.K G1 ds vs->aO F.K G1 (ds++[di n]) (vs++[.int n]):=by
   intro ds
   induction ds with
   |nil=>intro vs h;have h':vs=[]:=h;subst h';exact ⟨_,_,rfl,⟨rfl,rfl⟩,rfl⟩
   |cons d ds ih=>intro vs ⟨x,r,h1,h2,h3⟩;subst h1;exact ⟨x,_,rfl,h2,ih h3⟩
  exact ⟨G1,_,t,s1.s,app hx,hR,k.step s1⟩
end
abbrev dF (p:Int×Int):Dv:=.tup [di p.1,di p.2]
abbrev tF (p:Int×Int):Tr:=.fz (dF p)
def fW (W s:Int):Int×Int:=(lT s W,lB s W)
theorem jo {W s:Int}(h : 0<W) : 0<(fW W s).2:=by have:=wC (t:=s) (show W ≠ 0 by omega);show 0<lB s W;omega
theorem Nc {W s:Int}(h : 0<W):(fW W s).2<=W:=by have:=Zj (t:=s) (show W ≠ 0 by omega);show lB s W<=W;omega
theorem L7 {W s:Int}(h : 0<W):(fW W s).1.natAbs<=s.natAbs:=Yk (show W ≠ 0 by omega)
theorem jS {W s:Int}(h : 0<W):(fW W s).1*W=s*(fW W s).2:=Bh (show W ≠ 0 by omega)
theorem pH {W s t b:Int}(h : 0<W)(hb:b ≠ 0)(e:t*W=s*b):(lT t b,lB t b)=fW W s:=by
 obtain ⟨h1,h2⟩:=Z3 hb (show W ≠ 0 by omega) e
 show _=(_,_)
 rw [h1,h2]
theorem KP {W s t:Int}(h : 0<W):(lT ((fW W s).1*(fW W t).2+(fW W t).1*(fW W s).2) ((fW W s).2*(fW W t).2),lB ((fW W s).1*(fW W t).2+(fW W t).1*(fW W s).2) ((fW W s).2*(fW W t).2))=fW W (s+t):=by
 have p1:=jo (s:=s) h
 have p2:=jo (s:=t) h
 have c1:=jS (s:=s) h
 have c2:=jS (s:=t) h
 generalize (fW W s).1=a at *
 generalize (fW W s).2=b at *
 generalize (fW W t).1=c at *
 generalize (fW W t).2=d at *
 refine pH h (by have:=Int.mul_pos p1 p2;omega) ?_
 have e1:(a*d+c*b)*W=(a*W)*d+(c*W)*b:=by
  rw [Int.add_mul,Int.mul_right_comm a d W,Int.mul_right_comm c b W]
 rw [e1,c1,c2,Int.add_mul,Int.mul_assoc s b d,Int.mul_assoc t d b,Int.mul_comm d b]
theorem Yp {W s t:Int}(h : 0<W)(e:fW W s=fW W t):s=t:=by
 have c1:=jS (s:=s) h
 have c2:=jS (s:=t) h
 rw [e] at c1
 have p:=jo (s:=t) h
 have:s*(fW W t).2=t*(fW W t).2:=by rw [<- c1,<- c2]
 exact Int.eq_of_mul_eq_mul_right (by omega) this
theorem Wm {W:Int}(h : 0<W):fW W W=(1,1):=by
 have:=vw (t:=W) (b:=W) (p:=1) (q:=1) (by omega) (by decide) (by decide) (by rw [Int.one_mul,Int.mul_one])
 show (_,_)=_
 rw [<- this.1,<- this.2]
theorem KQ {W:Int}(h : 0<W):fW W 0=(0,1):=by
 have:=vw (t:=0) (b:=W) (p:=0) (q:=1) (by omega) (by decide) (by decide) (by rw [Int.zero_mul,Int.zero_mul])
 show (_,_)=_
 rw [<- this.1,<- this.2]
theorem Zn {W s t:Int}(h : 0<W):(fW W s).1*(fW W t).2<(fW W t).1*(fW W s).2 ↔ s<t:=by
 have p1:=jo (s:=s) h
 have p2:=jo (s:=t) h
 have c1:=jS (s:=s) h
 have c2:=jS (s:=t) h
 generalize (fW W s).1=a at *
 generalize (fW W s).2=b at *
 generalize (fW W t).1=c at *
 generalize (fW W t).2=d at *
 have bd : 0<b*d:=Int.mul_pos p1 p2
 have e1:a*d*W=s*(b*d):=by rw [Int.mul_right_comm,c1,Int.mul_assoc]
 have e2:c*b*W=t*(b*d):=by rw [Int.mul_right_comm,c2,Int.mul_assoc,Int.mul_comm d b]
 constructor
 ·intro z
  have:=Int.mul_lt_mul_of_pos_right z h
  rw [e1,e2] at this
  exact Int.lt_of_mul_lt_mul_right this (by omega)
 ·intro z
  have:=Int.mul_lt_mul_of_pos_right z bd
  rw [<- e1,<- e2] at this
  exact Int.lt_of_mul_lt_mul_right this (by omega)
end L2
namespace L2
open PySem PySem.Spec PyProof.Rows
theorem RS.cK {K:PySem.W.Frag}{G0 H0 G H:Hp}{ρ:En}{σ:St}{j:Nat}{t:Tr}(r:RS K G0 H0 G H ρ σ)(h : ρ[j]?=some (some t)):∃ G1,RS K G0 H0 G1 H (ρ.set j (some (.fz (er t)))) σ:=by
 obtain ⟨fp,r⟩:=r
 obtain ⟨v,f,fr,q1,q2,q3,q4⟩:=r.own.split h
 have nd:=q4.nodup_iff.mp r.d
 have inf:∀ a ∈ f,a ∈ fp:=fun a ha=>q4.mem_iff.mpr (List.mem_append_left _ ha)
 have inr:∀ a ∈ fr,a ∈ fp:=fun a ha=>q4.mem_iff.mpr (List.mem_append_right _ ha)
 have w:Nw H0 G f:=⟨fun a ha=>r.n a (inf a ha),fun a ha=>r.g a (inf a ha),(List.nodup_append.mp nd).1⟩
 have hv:Hv K (dk G H f) (er t) v:=q2.hv (g9 w.g) fun a ha=>iU ha
 have Z4:aJ K (dk G H f) H (ρ.set j none) σ fr:=q3.mono (g9 w.g) (ai.refl H)
 have hj:j < ρ.length:=by
  rcases Nat.lt_or_ge j ρ.length with z | z
  ·exact z
  ·rw [List.getElem?_eq_none z] at h;cases h
 obtain ⟨iL,p1,p2⟩:=Z4.put (rq hj) (t:=.fz (er t)) (v:=v) (f:=[]) ⟨rfl,hv⟩
 rw [List.set_set] at p1
 have es : σ.set j (some v)=σ:=by
  refine List.ext_getElem? fun i=>?_
  rw [List.getElem?_set]
  split
  ·rename_i e
   subst e
   split
   ·exact q1.symm
   ·rename_i z;rw [List.getElem?_eq_none (by omega)] at q1;cases q1
  ·rfl
 rw [es] at p1
 have Ek:∀ a ∈ iL,a ∈ fr:=fun a ha=>by simpa using p2.mem_iff.mp ha
 refine ⟨dk G H f,iL,r.st.cK w,p1,fun a ha=>?_,fun a ha=>r.n a (inr a (Ek a ha)),p2.nodup_iff.mpr (by simpa using (List.nodup_append.mp nd).2.1)⟩
 have hn:a ∉ f:=fun z=>(List.nodup_append.mp nd).2.2 a z a (Ek a ha) rfl
 rw [pE hn]
 exact r.g a (inr a (Ek a ha))
section
variable {ι:Type}{F:aY ι}{bA:List Stmt}{ρ:En}{o:Out}{t:Tr}
theorem Wn (j:Nat)(h : ρ[j]?=some (some t))(hr:bC F bA (ρ.set j (some (.fz (er t)))) o):bC F bA ρ o:=by
 obtain ⟨τ,x,y⟩:=hr
 exact ⟨τ,x,fun D σ G0 H0 G H r k=>by
  obtain ⟨G1,r1⟩:=r.cK h
  exact y D σ G0 H0 G1 H r1 k⟩
end
theorem CH {X:Cx}{kO:List Str}{kZ:List Nat}{bP:Scope}{mM:List (Str×Addr)}{C:Addr}{s:Shared}{H:Hp}{ex:List Addr}{pn:List (Addr×Obj)}{sc:Scope}{fr:List Nat}(N2:List Str)(L:JA N2 bP sc fr)(D7:∀ y,(y,NameKind.free) ∈ bP.names->∃ c,mM.lookup y=some c)(eN:(kO++kZ.map fun j=>X.N.getD j "")=N2:=by rfl) :
  hJ (bU X kO kZ bP mM C s H ex pn) sc (eY (cellsFrom (C+1) bP.names mM) sc.names []) fr:=by
 subst eN
 exact ZX L D7
theorem vN {K:PySem.W.Frag}{G H:Hp}:∀ {o:List Int} {xs:List V} {fq:List Addr},aG K G H (o.map fun n=>.fz (di n)) xs fq->xs=o.map V.int/\fq=[]
 |[],_,_,h=>h
 |n::o,_,_,⟨v,r,f1,f2,h1,h2,⟨h3,uj⟩,h4⟩=>by
  obtain ⟨e1,e2⟩:=vN h4
  subst h1 h2 h3 e1 e2
  rw [bf uj]
  exact ⟨rfl,rfl⟩
theorem Bk {K:PySem.W.Frag}{G H:Hp}:∀ {os:List (List Int)} {vs:List V} {fq:List Addr},aG K G H (os.map aR) vs fq->∃ ps:List (Addr×List Int),vs=ps.map (fun p=>V.ref p.1)/\fq=ps.map (·.1)/\ps.map (·.2)=os/\∀ p ∈ ps,H p.1=some (.lst (p.2.map V.int))
 |[],_,_,⟨h1,h2⟩=>⟨[],h1,h2,rfl,fun _ z=>nomatch z⟩
 |o::os,_,_,⟨v,r,f1,f2,h1,h2,⟨a,xs,fa,g1,g2,g3,g4⟩,h4⟩=>by
  obtain ⟨ps,e1,e2,e3,e4⟩:=Bk h4
  obtain ⟨i1,i2⟩:=vN g3
  subst h1 h2 e1 e2 g1 g4 i1 i2
  refine ⟨(a,o)::ps,rfl,rfl,by rw [List.map_cons,e3],fun p hp=>?_⟩
  rcases List.mem_cons.mp hp with rfl | hp
  ·exact g2
  ·exact e4 p hp
def Md (f:List Addr)(H H2:Hp):Prop:=∀ b o,b ∉ f->H b=some o->H2 b=some o
theorem Md.upd {f:List Addr}{H:Hp}{l:Addr}{o:HO}(hl:l ∈ f):Md f H (L2.upd H l o):=fun b u n h=>by
 rw [aP (show b ≠ l from fun z=>n (z ▸ hl))];exact h
mutual
theorem Ow.agree {K:PySem.W.Frag}{G H H2:Hp}:∀ {t:Tr} {v:V} {fp:List Addr},Ow K G H t v fp->(∀ a ∈ fp,H2 a=H a)->Ow K G H2 t v fp
 | .fz _,_,_,h,_=>h
 | .ow _,_,_,⟨b,vs,fq,h1,h2,h3,h4⟩,n=>by
  subst h4
  exact ⟨b,vs,fq,h1,(n b (.head _)).trans h2,aG.agree h3 fun a z=>n a (.tail _ z),rfl⟩
 | .tp _,_,_,⟨b,vs,fq,h1,h2,h3,h4⟩,n=>by
  subst h4
  exact ⟨b,vs,fq,h1,(n b (.head _)).trans h2,aG.agree h3 fun a z=>n a (.tail _ z),rfl⟩
theorem aG.agree {K:PySem.W.Frag}{G H H2:Hp}:∀ {ts:List Tr} {vs:List V} {fp:List Addr},aG K G H ts vs fp->(∀ a ∈ fp,H2 a=H a)->aG K G H2 ts vs fp
 |[],_,_,h,_=>h
 |_::_,_,_,⟨v,r,f1,f2,h1,h2,h3,h4⟩,n=>by
  subst h2
  exact ⟨v,r,f1,f2,h1,rfl,h3.agree fun a z=>n a (List.mem_append_left _ z),aG.agree h4 fun a z=>n a (List.mem_append_right _ z)⟩
end
theorem aJ.agree {K:PySem.W.Frag}{G H H2:Hp}:∀ {ρ:En} {σ:St} {fp:List Addr},aJ K G H ρ σ fp->(∀ a ∈ fp,H2 a=H a)->aJ K G H2 ρ σ fp
 |[],_,_,h,_=>h
 |none::_,_,_,⟨o,r,h1,h2⟩,n=>⟨o,r,h1,aJ.agree h2 n⟩
 |some _::_,_,_,⟨v,r,f1,f2,h1,h2,h3,h4⟩,n=>by
  subst h2
  exact ⟨v,r,f1,f2,h1,rfl,h3.agree fun a z=>n a (List.mem_append_left _ z),aJ.agree h4 fun a z=>n a (List.mem_append_right _ z)⟩
theorem aJ.qC {K:PySem.W.Frag}{G H:Hp}{u:Option V}:∀ {ρ:En} {σ:St} {fp:List Addr} {y:Nat},aJ K G H ρ σ fp->ρ[y]?=some none->aJ K G H ρ (σ.set y u) fp
 |none::_,_,_,0,⟨o,r,h1,h2⟩,_=>by subst h1;exact ⟨u,r,rfl,h2⟩
 |none::_,_,_,y+1,⟨o,r,h1,h2⟩,h=>by subst h1;exact ⟨o,_,rfl,aJ.qC (y:=y) h2 h⟩
 |some _::_,_,_,0,_,h=>by cases h
 |some _::_,_,_,y+1,⟨v,r,f1,f2,h1,h2,h3,h4⟩,h=>by subst h1;exact ⟨v,_,f1,f2,rfl,h2,h3,aJ.qC (y:=y) h4 h⟩
theorem RS.qC {K:PySem.W.Frag}{G0 H0 G H:Hp}{ρ:En}{σ:St}{y:Nat}{u:Option V}(r:RS K G0 H0 G H ρ σ)(h : ρ[y]?=some none):RS K G0 H0 G H ρ (σ.set y u):=by
 obtain ⟨fp,r⟩:=r
 exact ⟨fp,r.st,r.own.qC h,r.g,r.n,r.d⟩
end L2
namespace L2
open PySem PySem.Spec PyProof.Rows
section
variable {ι:Type}{F:aY ι}{e:Expr}{ρ:En}{pos:Pos}
theorem Wo (ja jb:Nat){xa xb:Str}{ta tb:Tr}{pa pb pt:Pos}{kt}(Ej:ja ≠ jb)(ha : ρ[ja]?=some (some ta))(hb : ρ[jb]?=some (some tb))(hps:∀ i,PS (F.cx i) (.Return (some (.Tuple [.Name xa pa,.Name xb pb] kt pt)) pos) (kN (nI (bY (bT ja) (bY (bT jb) cI))))):Rn F (.Return (some (.Tuple [.Name xa pa,.Name xb pb] kt pt)) pos) ρ (.rt (.tp [ta,tb])):=by
 refine ⟨_,hps,fun D σ G0 H0 G H r k=>?_⟩
 obtain ⟨fp,r⟩:=r
 obtain ⟨va,fa,fr,a1,a2,a3,a4⟩:=r.own.split ha
 obtain ⟨vb,fb,fr2,b1,b2,b3,b4⟩:=a3.split (j:=jb) (t:=tb) (by rw [List.getElem?_set_ne Ej];exact hb)
 have pm:fp.Perm (fa++(fb++fr2)):=a4.trans (List.Perm.append_left _ b4)
 have nd:=List.nodup_append.mp (pm.nodup_iff.mp r.d)
 have xR:=List.nodup_append.mp nd.2.1
 have sub:∀ a ∈ fa++(fb++[]),a ∈ fp:=fun a ha=>by
  rw [List.append_nil] at ha
  rcases List.mem_append.mp ha with z | z
  ·exact pm.mem_iff.mpr (List.mem_append_left _ z)
  ·exact pm.mem_iff.mpr (List.mem_append_right _ (List.mem_append_left _ z))
 refine ⟨va,a1,vb,b1,by show 2<=sizeLine;decide,fun p hp=>?_⟩
 have np:∀ a ∈ fp,p ≠ a:=fun a ha e=>by
  obtain ⟨u,hu⟩:=r.own.there a ha
  rw [<- e,hp] at hu;cases hu
 have pf:p ∉ fa++(fb++[]):=fun z=>np p (sub p z) rfl
 refine k (.ref p) G _ (p::(fa++(fb++[]))) (r.st.trans (.gO r.st.s hp)) ⟨p,_,_,rfl,bE,⟨va,_,fa,_,rfl,rfl,a2.frame fun z=>pf (List.mem_append_left _ z),vb,[],fb,[],rfl,rfl,b2.frame fun z=>pf (List.mem_append_right _ (by rw [List.append_nil];exact z)),rfl,rfl⟩,rfl⟩ ⟨fun a ha=>?_,fun a ha=>?_,List.nodup_cons.mpr ⟨pf,?_⟩⟩
 ·rcases List.mem_cons.mp ha with rfl | z
  ·exact r.st.h.free hp
  ·exact r.n a (sub a z)
 ·rcases List.mem_cons.mp ha with rfl | z
  ·exact r.st.s.free hp
  ·exact r.g a (sub a z)
 ·rw [List.append_nil]
  exact List.nodup_append.mpr ⟨nd.1,xR.1,fun a ha b hb e=>nd.2.2 a ha b (List.mem_append_left _ hb) e⟩
end
section
variable {κ:Type} [DecidableEq κ]
def fT (aj:List (κ×V))(k : κ):Option V:=(aj.find? fun kv=>decide (kv.1=k)).map (·.2)
def putK (aj:List (κ×V))(k : κ)(v:V):List (κ×V) :=
 if (aj.any fun kv=>decide (kv.1=k))=true then aj.map (fun kv=>if kv.1=k then (kv.1,v) else kv) else aj++[(k,v)]
theorem AJ {p : κ×V}{r:List (κ×V)}{k : κ}(e:p.1=k):fT (p::r) k=some p.2:=by simp [fT,List.find?_cons,e]
theorem AK {p : κ×V}{r:List (κ×V)}{k : κ}(e:¬ p.1=k):fT (p::r) k=fT r k:=by simp [fT,List.find?_cons,e]
theorem JR (k : κ):∀ aj:List (κ×V),(aj.any fun kv=>decide (kv.1=k))=(fT aj k).isSome
 |[] => rfl
 |p::r=>by
  rw [List.any_cons]
  by_cases e:p.1=k
  ·simp only [AJ e,decide_eq_true e,Bool.true_or,Option.isSome_some]
  ·rw [AK e,decide_eq_false e,Bool.false_or];exact JR k r
theorem Iy (aj:List (κ×V))(k : κ)(v:V):(putK aj k v).length<=aj.length+1:=by
 unfold putK
 split
 ·rw [List.length_map];omega
 ·rw [List.length_append,List.length_cons,List.length_nil];omega
theorem ip.Uq {o:Option V}{u:Option Value}(r:ip o u):o.isSome=u.isSome:=by
 cases o with
 |none=>cases u with
  |none=>rfl
  |some _=>exact (show False from r).elim
 |some _=>cases u with
  |none=>exact (show False from r).elim
  |some _=>rfl
theorem ip.getD {o:Option V}{u:Option Value}{d:V}{d':Value}(r:ip o u)(rd:RelV d d'):RelV (o.getD d) (u.getD d'):=by
 cases o with
 |none=>cases u with
  |none=>exact rd
  |some _=>exact (show False from r).elim
 |some _=>cases u with
  |none=>exact (show False from r).elim
  |some _=>exact r
theorem KV.val {aj:List (κ×V)}{vs:List (κ×Value)}(r:KV aj vs)(k : κ):ip (fT aj k) (valueAt vs k):=by
 unfold KV at r
 induction r with
 |nil=>exact True.intro
 | @cons p q ps qs h t ih =>
  obtain ⟨h1,h2⟩:=h
  by_cases e:p.1=k
  ·have e':q.1=k:=h1.symm.trans e
   have b:valueAt (q::qs) k=some q.2:=by simp [valueAt,List.find?_cons,e']
   rw [AJ e,b];exact h2
  ·have e':¬ q.1=k:=fun z=>e (h1.trans z)
   have b:valueAt (q::qs) k=valueAt qs k:=by simp [valueAt,List.find?_cons,e']
   rw [AK e,b];exact ih
theorem KV.any {aj:List (κ×V)}{vs:List (κ×Value)}(r:KV aj vs)(k : κ):(aj.any fun kv=>decide (kv.1=k))=vs.any fun kv=>decide (kv.1=k):=by
 unfold KV at r
 induction r with
 |nil=>rfl
 |cons h t ih=>rw [List.any_cons,List.any_cons,ih,h.1]
theorem KV.repl {aj:List (κ×V)}{vs:List (κ×Value)}(r:KV aj vs)(k : κ){y:V}{u:Value}(ry:RelV y u) :
  KV (aj.map fun kv=>if kv.1=k then (kv.1,y) else kv) (vs.map fun kv=>if kv.1=k then (kv.1,u) else kv):=by
 unfold KV at r ⊢
 induction r with
 |nil=>exact .nil
 | @cons p q ps qs h t ih =>
  rw [List.map_cons,List.map_cons]
  refine .cons ?_ ih
  obtain ⟨h1,h2⟩:=h
  by_cases e:p.1=k
  ·rw [if_pos e,if_pos (h1.symm.trans e)];exact ⟨h1,ry⟩
  ·rw [if_neg e,if_neg (fun z=>e (h1.trans z))];exact ⟨h1,h2⟩
theorem KV.put {aj:List (κ×V)}{vs:List (κ×Value)}(r:KV aj vs)(k : κ){y:V}{u:Value}(ry:RelV y u):KV (putK aj k y) (stored vs k u):=by
 unfold putK stored
 rw [r.any k]
 by_cases e:(vs.any fun kv=>decide (kv.1=k))=true
 ·rw [if_pos e,if_pos e];exact r.repl k ry
 ·rw [if_neg e,if_neg e];exact Paired.snoc r ⟨rfl,ry⟩
theorem KV.length {aj:List (κ×V)}{vs:List (κ×Value)}(r:KV aj vs):aj.length=vs.length:=Paired.length r
end
theorem wD {P:Program}{w:World}{k:Key}{u:Value}(r:RelV (kV k) u):(gh P w).is k u=true:=by
 cases k with
 |inl i=>obtain ⟨t,e⟩:=(show ∃ t,u=Value.int i t from r);subst e;exact SW P w i t
 |inr x=>obtain ⟨t,e⟩:=(show ∃ t,u=Value.str x t from r);subst e;exact SX P w x t
theorem Jj {P:Program}{w:World}:∀ {ks:List Key} {us:List Value},Vals (ks.map kV) us->ItemsAre (gh P w) ks us
 |[],_,r=>by rw [List.map_nil] at r;cases r;exact .nil
 |k::ks,_,r=>by
  rw [List.map_cons] at r
  cases r with
  |cons h t=>exact .cons (wD h) (Jj t)
abbrev KT (H:Hp):List (List Key×V)->List (List Key×Addr×Value)->Prop:=Paired fun p q=>p.1=q.1/\H q.2.1=some (.tup (p.1.map kV))/\RelV p.2 q.2.2
theorem KT.val {H:Hp}{aj:List (List Key×V)}{xs:List (List Key×Addr×Value)}(r:KT H aj xs)(k:List Key):ip (fT aj k) ((atKey xs k).map (·.2)):=by
 induction r with
 |nil=>exact True.intro
 | @cons p q ps qs h t ih =>
  obtain ⟨h1,_,h2⟩:=h
  by_cases e:p.1=k
  ·have e':q.1=k:=h1.symm.trans e
   have b:atKey (q::qs) k=some q.2:=by simp [atKey,List.find?_cons,e']
   rw [AJ e,b];exact h2
  ·have e':¬ q.1=k:=fun z=>e (h1.trans z)
   have b:atKey (q::qs) k=atKey qs k:=by simp [atKey,List.find?_cons,e']
   rw [AK e,b];exact ih
theorem KT.repl {H:Hp}{aj:List (List Key×V)}{xs:List (List Key×Addr×Value)}(r:KT H aj xs)(k:List Key){y:V}{u:Value}(ry:RelV y u) :
  KT H (aj.map fun kv=>if kv.1=k then (kv.1,y) else kv) (xs.map (putAt k u)):=by
 induction r with
 |nil=>exact .nil
 | @cons p q ps qs h t ih =>
  rw [List.map_cons,List.map_cons]
  refine .cons ?_ ih
  obtain ⟨h1,h2,h3⟩:=h
  unfold putAt
  by_cases e:p.1=k
  ·rw [if_pos e,if_pos (h1.symm.trans e)];exact ⟨h1,h2,ry⟩
  ·rw [if_neg e,if_neg (fun z=>e (h1.trans z))];exact ⟨h1,h2,h3⟩
theorem KT.put {H:Hp}{aj:List (List Key×V)}{xs:List (List Key×Addr×Value)}(r:KT H aj xs)(k:List Key){b:Addr}{y:V}{u:Value}(hb:H b=some (.tup (k.map kV)))(ry:RelV y u) :
  KT H (putK aj k y) (storedH xs k b u):=by
 have e:(aj.any fun kv=>decide (kv.1=k))=(atKey xs k).isSome:=by
  rw [JR,(r.val k).Uq,Option.isSome_map]
 unfold putK storedH
 rw [e]
 by_cases q:(atKey xs k).isSome=true
 ·rw [if_pos q,if_pos q];exact r.repl k ry
 ·rw [if_neg q,if_neg q];exact Paired.snoc r ⟨rfl,hb,ry⟩
theorem KT.keeps {H H':Hp}{aj:List (List Key×V)}{xs:List (List Key×Addr×Value)}(r:KT H aj xs)(ht:∀ b ys,H b=some (.tup ys)->H' b=some (.tup ys)):KT H' aj xs :=
 Paired.Dd r fun _ _ z=>⟨z.1,ht _ _ z.2.1,z.2.2⟩
section
variable {P:Program}{w:World}{H:Hp}{h:Heap}{a:Addr}
theorem Nf {u:HO}(ok:bO P w H h)(e:Rd H a u):bQ P w H h a u:=e.ok ok
theorem sX {aj:List (Key×V)}(ok:bO P w H h)(e:Rd H a (.dK aj)):aj.length<=sizeLine/\(a==sysModules)=false/\∃ vs,KV aj vs/\h.DictOf (gh P w) a vs :=
 show bQ P w H h a (.dK aj) from Nf ok e
theorem Zo {aj:List (Key×V)}(ok:bO P w H h)(e:H a=some (.dK aj)):aj.length<=sizeLine/\(a==sysModules)=false/\∃ vs,KV aj vs/\h.DictOf (gh P w) a vs:=sX ok (.inl e)
theorem nu {ks:List Key}(ok:bO P w H h)(e:H a=some (.tup (ks.map kV))):(tupleKind (gh P w)).is h ks a:=by
 obtain ⟨_,its,r,o,h1,h2,n,h3⟩:=(show bQ P w H h a (.tup (ks.map kV)) from ok a _ e)
 exact ⟨o,its.toArray,n,h1,h2,h3,by simpa using Jj r⟩
theorem sY {aj:List (List Key×V)}(ok:bO P w H h)(e:Rd H a (.dT aj)):aj.length<=sizeLine/\(a==sysModules)=false /\
  ∃ xs,KT H aj xs/\h.DictOfH (tupleKind (gh P w)) a xs:=by
 obtain ⟨z,y,xs,r,o,es,ep,h1,h2,h3,h4,h5⟩:=(show bQ P w H h a (.dT aj) from Nf ok e)
 refine ⟨z,y,xs,r,o,es,ep,h1,h2,h3,h4,fun x hx=>?_,h5⟩
 have all:∀ {l:List (List Key×V)} {m:List (List Key×Addr×Value)},KT H l m->∀ x ∈ m,(tupleKind (gh P w)).is h x.1 x.2.1:=by
  intro l m q
  induction q with
  |nil=>intro x hx;exact nomatch hx
  | @cons p q ps qs hq t ih =>
   intro x hx
   rcases List.mem_cons.mp hx with e | hx
   ·subst e
    exact nu ok (by rw [<- hq.1];exact hq.2.1)
   ·exact ih x hx
 exact all r x hx
theorem Zq {aj:List (List Key×V)}(ok:bO P w H h)(e:H a=some (.dT aj)):aj.length<=sizeLine/\(a==sysModules)=false /\
  ∃ xs,KT H aj xs/\h.DictOfH (tupleKind (gh P w)) a xs:=sY ok (.inl e)
end
def kQ (H:Hp)(a:Addr)(y:V)(r:Option V):Prop :=
 (∃ aj k,Rd H a (.dK aj)/\y=kV k/\r=fT aj k)\/∃ aj k b,Rd H a (.dT aj)/\y=.ref b/\H b=some (.tup (k.map kV))/\r=fT aj k
def tP (H:Hp)(a:Addr)(y v:V)(H':Hp):Prop :=
 (∃ aj k,H a=some (.dK aj)/\y=kV k/\aj.length<sizeLine/\H'=upd H a (.dK (putK aj k v))) \/
 ∃ aj k b,H a=some (.dT aj)/\y=.ref b/\H b=some (.tup (k.map kV))/\aj.length<sizeLine/\H'=upd H a (.dT (putK aj k v))
theorem kQ.t {H:Hp}{a b:Addr}{aj:List (List Key×V)}{k:List Key}(e:H a=some (.dT aj))(eb:H b=some (.tup (k.map kV))):kQ H a (.ref b) (fT aj k):=.inr ⟨aj,k,b,.inl e,rfl,eb,rfl⟩
theorem tP.t {H:Hp}{a b:Addr}{aj:List (List Key×V)}{k:List Key}{v:V}(e:H a=some (.dT aj))(eb:H b=some (.tup (k.map kV)))(hl:aj.length<sizeLine) :
  tP H a (.ref b) v (upd H a (.dT (putK aj k v))):=.inr ⟨aj,k,b,e,rfl,eb,hl,rfl⟩
section
variable {X:Cx}{pins:List (Addr×Obj)}{σ:St}{H:Hp}{s:Shared}{a:Addr}{y v:V}{u r:Value}{o:Option V}{A:Around}{E:Value->Shared->Prop}
theorem Inv.big (I:Inv X pins σ H s):sysModules<s.heap.objs.size:=by
 have h:mainGlobals<s.heap.objs.size:=(I.mod.glob.keeps I.bk).lt
 exact Nat.lt_trans (by decide) h
theorem Ur {Q:Value->Shared->Prop}(hu:A.units+1<cLine)(I:Inv X pins σ H s)(g:kQ H a y (some v))(ry:RelV y u)(h:∀ w' s',Inv X pins σ H s'->RelV v w'->Q w' s') :
  wpAny (model X.prog X.w) A (getItem (.ref a) u) Q E s:=by
 rcases g with ⟨aj,k,e,ey,l⟩ | ⟨aj,k,b,e,ey,eb,l⟩
 ·subst ey
  obtain ⟨z,hd,vs,rel,dd⟩:=sX I.av e
  obtain ⟨w',hw,iH⟩:=ip.some_of (v:=v) (o:=valueAt vs k) (by rw [l];exact rel.val k)
  exact wpAny_getItem_of (wD ry) dd.mapOf hw (h w' _ (I.tok _) iH)
 ·subst ey
  cases (show u=Value.ref b from ry)
  obtain ⟨z,hd,xs,rel,dd⟩:=sY I.av e
  obtain ⟨w',hw,iH⟩:=ip.some_of (v:=v) (o:=(atKey xs k).map (·.2)) (by rw [l];exact rel.val k)
  obtain ⟨p,hp,Em⟩:=Option.map_eq_some_iff.mp hw
  refine wpAny_getItem_heap (tupleKind_room_in1 hu) (nu I.av eb) dd hp ?_
  rw [Em]
  exact h w' _ (I.tok _) iH
theorem KR {h':Heap}{t':Nat}{ob:HO}(I:Inv X pins σ H s)(mu:tW (H a))(hs:Heap.SameBut a s.heap h')(he:∃ q,h'.get? a=some q)(new:bQ X.prog X.w (upd H a ob) h' a ob) :
  Inv X pins σ (upd H a ob) { s with heap:=h',toks:=t' } :=
 I.write (x:=a) (e:=a) mu (.inl rfl) (fun b q hb z=>(hs.2 b hb).trans z) he new
theorem Yq {P:Program}{w:World}{H':Hp}{h':Heap}{aj:List (Key×V)}{vs:List (Key×Value)}(z:aj.length<=sizeLine)(hd:(a==sysModules)=false)(rel:KV aj vs)(dd:h'.DictOf (gh P w) a vs) :
  bQ P w H' h' a (.dK aj):=⟨z,hd,vs,rel,dd⟩
theorem Us {H':Hp}{Q:Unit->Shared->Prop}(hu:A.units+1<cLine)(I:Inv X pins σ H s)(g:tP H a y v H')(ry:RelV y u)(rv:RelV v r)(h:∀ s',Inv X pins σ H' s'->Q () s') :
  wpAny (model X.prog X.w) A (setItem (.ref a) u r) Q E s:=by
 rcases g with ⟨aj,k,e,ey,l,eH⟩ | ⟨aj,k,b,e,ey,eb,l,eH⟩
 ·subst ey eH
  obtain ⟨z,hd,vs,rel,dd⟩:=Zo I.av e
  have hz:vs.length<=sizeLine:=by rw [<- rel.length];exact z
  have hl:(putK aj k v).length<=sizeLine:=by have:=Iy aj k v;omega
  refine wpAny_setItem_pairs (hsz:=hz) (wD ry) dd fun h' xS hs=>h _ ?_
  have he:∃ q,h'.get? a=some q:=let ⟨q,_,_,hq,_⟩:=xS;⟨q,hq⟩
  exact KR I (by rw [e];exact True.intro) hs he (Yq hl hd (rel.put k rv) xS)
 ·subst ey eH
  cases (show u=Value.ref b from ry)
  obtain ⟨z,hd,xs,rel,dd⟩:=Zq I.av e
  have hz:xs.length<=sizeLine:=by rw [<- Paired.length rel];exact z
  have hl:(putK aj k v).length<=sizeLine:=by have:=Iy aj k v;omega
  refine wpAny_setItem_heap (hsz:=hz) (tupleKind_room_in1 hu) (nu I.av eb) dd fun h' xS hs=>h _ ?_
  obtain ⟨q,es,ep,hq,h2,h3,h4,_,h5⟩:=xS
  refine KR I (by rw [e];exact True.intro) hs ⟨q,hq⟩ ⟨hl,hd,_,(rel.put k eb rv).keeps fun c ys ec=>?_,q,es,ep,hq,h2,h3,h4,h5⟩
  rw [aP (Y9 ec e (fun z=>nomatch z))]
  exact ec
end
def Ob (i:Expr):Prop:=∀ ov iv,subscripted i false ov iv=operate [ov,iv] (getItem ov iv)
theorem Wq {prog:Program}{w:World}{A:Around}{E:Value->Shared->Prop}{s:Shared}{env:Env}{value slice:Expr}{pos:Pos}{T id:String}{Q:Value->Shared->Prop}(hl:typeLookup (.type T) "__getitem__" = pure (some (.builtin id)))(hs:Ob slice)(h:wpAny (model prog w) A (eval value env) (fun o bt=>wpAny (model prog w) A (eval slice env) (fun i kK=>kK.TypeIs o T/\wpAny (model prog w) A (getItem o i) Q E kK) E bt) E s) :
  wpAny (model prog w) A (eval (.Subscript value slice pos) env) Q E s:=by
 refine Subscript_ (wpAny_mono h (fun o bt Z5=>wpAny_mono Z5 (fun i kK DA=>?_) fun _ _ x=>x) fun _ _ x=>x)
 obtain ⟨hT,DA⟩:=DA
 unfold subscriptTail
 refine wpAny_bind ?_
 rw [getitemInPython_of_ne hT.not_modules]
 refine wpAny_bind (wpAny_specialOf hT hl ?_)
 have fin:wpAny (model prog w) A (subscripted slice false o i) (fun r wY=>wpAny (model prog w) A (letTemporaryGo value o r >>= fun _=>pure r) Q E wY) E kK:=by
  rw [hs o i]
  exact wpAny_operating (wpAny_mono DA (fun r wY Z6=>wpAny_bind (wpAny_letTemporaryGo (wpAny_pure Z6))) fun _ _ x=>x)
 first
  |exact wpAny_pure (wpAny_bind fin)
  |exact wpAny_bind (wpAny_pure (wpAny_bind fin))
  |exact wpAny_bind fin
theorem S2 {X:Cx}{pins:List (Addr×Obj)}{σ:St}{H:Hp}{s:Shared}{a:Addr}{y:V}{o:Option V}(I:Inv X pins σ H s)(g:kQ H a y o):s.TypeIs (.ref a) "dict" := by
 rcases g with ⟨aj,k,e,_,_⟩ | ⟨aj,k,b,e,_,_,_⟩
 ·obtain ⟨_,_,vs,_,dd⟩:=sX I.av e
  exact dd.typeIs
 ·obtain ⟨_,_,xs,_,dd⟩:=sY I.av e
  exact dd.typeIs
def CI (td ty:TE):TE:=fun σ H Q=>td σ H fun x H1=>ty σ H1 fun y H2=>∃ a v,x=.ref a/\kQ H2 a y (some v)/\Q v H2
def CJ (td ty tv:TE):TS:=fun D σ H=>tv σ H fun v H1=>td σ H1 fun x H2=>ty σ H2 fun y H3=>∃ a H4,x=.ref a/\tP H3 a y v H4/\D.nx σ H4
section
variable {X:Cx}{o i e value:Expr}{pos pos' ae4:Pos}{td ty tv:TE}
theorem Wr (hu:X.A.units+1<cLine)(ho:PE X o td)(hi:PE X i ty)(hs:Ob i):PE X (.Subscript o i pos) (CI td ty):=by
 intro pins s σ H Q I h
 refine Wq PySem.F.slot_dict_getitem.lookup hs (ay (ho pins s σ H _ I h) fun u s1 ⟨x,H1,I1,rx,q1⟩=>ay (hi pins s1 σ H1 _ I1 q1) fun iv s2 ⟨y,H2,I2,ry,a,v,ex,g,q2⟩=>?_)
 subst ex
 obtain rfl:u=Value.ref a:=rx
 exact ⟨S2 I2 g,Ur hu I2 g ry fun w' s3 I3 iH=>⟨v,H2,I3,iH,q2⟩⟩
theorem Ws (hu:X.A.units+1<cLine)(ho:PE X o td)(hi:PE X i ty)(hv:PE X value tv)(hs:swapsWith value (some (.Subscript o i pos')) pos.line X.env=pure false) :
  PS X (.Assign [.Subscript o i pos'] value pos) (CJ td ty tv):=by
 intro pins s σ H D I h
 refine wpAny_Assign_Subscript (ay (hv pins s σ H _ I h) fun r s1 ⟨v,H1,I1,rv,q1⟩=>ay (ho pins s1 σ H1 _ I1 q1) fun u s2 ⟨x,H2,I2,rx,q2⟩=>ay (hi pins s2 σ H2 _ I2 q2) fun iv s3 ⟨y,H3,I3,ry,a,H4,ex,g,q3⟩=>?_) hs
 subst ex
 obtain rfl:u=Value.ref a:=rx
 exact Us hu I3 g ry rv fun s4 I4=>⟨σ,H4,I4,q3⟩
end
theorem Vi {P:Program}{w:World}{H:Hp}(h:Heap)(hb:sysModules<h.objs.size):bQ P w H (h.push { cls:=.type "dict",data:=.dict #[] }) h.objs.size (.dT []) :=
 ⟨Nat.zero_le _,beq_eq_false_iff_ne.mpr (Ne.symm (Nat.ne_of_lt hb)),[],.nil,_,#[],0,Heap.get?_push_size _ rfl,⟨rfl,rfl,rfl⟩,rfl,rfl,List.nodup_nil⟩
def Yr:TE:=fun _ H Q=>∀ p,H p=none->Q (.ref p) (upd H p (.dT []))
section
variable {X:Cx}{pos:Pos}
theorem Vj:PE X (.Dict [] [] pos) Yr:=fun pins s σ H Q I h =>
 wpAny_Dict_empty ⟨.ref s.heap.objs.size,_,I.laid (a:=s.heap.objs.size) (o:=.dT []) (t':=s.toks) (fun _ _ q=>Heap.get?_push_of_some _ q) (Nat.le_refl _) (Vi s.heap I.big),rfl,h _ (I.av.fresh (Nat.le_refl _))⟩
end
structure M2 (X:Cx) (o:Expr) (m:Str) (apos:Pos) (e f:Expr) (cR:Pos):Prop where
 base:attributeBase o m X.env (eval o X.env)=eval o X.env
 few:((backTo cR (starEach [e,f] X.env)).all (fun x=>!x.1)&&(backToKw cR (keywordEach [] X.env)).all (fun x=>x.1.isSome)
  && decide (([e,f]:List Expr).length+([]:List Keyword).length+(if ([]:List Keyword).isEmpty then 0 else 1)<30))=true
 line:(apos.endLine==cR.line)=true
 trees:backTo cR (starEach [e,f] X.env)=[(false,eval e X.env),(false,eval f X.env)]
def P8 (H:Hp)(a:Addr):Prop:=(∃ aj,Rd H a (.dK aj))\/∃ aj,Rd H a (.dT aj)
theorem Ys {X:Cx}{pins:List (Addr×Obj)}{σ:St}{H:Hp}{s:Shared}{a:Addr}(I:Inv X pins σ H s)(d:P8 H a) :
  s.TypeIs (.ref a) "dict" /\ (∀ b,Value.ref a=.ref b->∃ ob,s.heap.get? b=some ob/\ob.dict=none)/\(a==sysModules)=false:=by
 rcases d with ⟨aj,e⟩ | ⟨aj,e⟩
 ·obtain ⟨_,hd,vs,_,dd⟩:=sX I.av e
  refine ⟨dd.typeIs,fun b q=>?_,hd⟩
  cases q
  obtain ⟨ob,_,_,h1,h2,_⟩:=dd
  exact ⟨ob,h1,h2.2.1⟩
 ·obtain ⟨_,hd,xs,_,dd⟩:=sY I.av e
  refine ⟨dd.typeIs,fun b q=>?_,hd⟩
  cases q
  obtain ⟨ob,_,_,h1,h2,_⟩:=dd
  exact ⟨ob,h1,h2.2.1⟩
section
variable {X:Cx}{pins:List (Addr×Obj)}{σ:St}{H:Hp}{s:Shared}{a:Addr}{y d:V}{u r:Value}{o:Option V}{A:Around}{E:Value->Shared->Prop}
theorem Yt {Q:Value->Shared->Prop}(hu:A.units+1<cLine)(I:Inv X pins σ H s)(g:kQ H a y o)(ry:RelV y u)(rd:RelV d r)(h:∀ w' s',Inv X pins σ H s'->RelV (o.getD d) w'->Q w' s') :
  wpAny (model X.prog X.w) A (call (.builtin "dict.get") [.ref a,u,r]) Q E s:=by
 rcases g with ⟨aj,k,e,ey,l⟩ | ⟨aj,k,b,e,ey,eb,l⟩
 ·subst ey
  obtain ⟨z,hd,vs,rel,dd⟩:=sX I.av e
  refine call_meetsIn PySem.F.slot_dict_get dd.typeIs PySem.F.entry_dict_get (PySem.F.args_dict_get_3 _ _ _) (meets_dict_get_default (gh X.prog X.w) a (wD ry) hd r) ⟨_,dd.mapOf,h _ _ (I.tok _) ?_⟩
  rw [l]
  exact (rel.val k).getD rd
 ·subst ey
  cases (show u=Value.ref b from ry)
  obtain ⟨z,hd,xs,rel,dd⟩:=sY I.av e
  refine call_meetsIn PySem.F.slot_dict_get dd.typeIs PySem.F.entry_dict_get (PySem.F.args_dict_get_3 _ _ _) (meetsH_dict_get_default (tupleKind (gh X.prog X.w)) a b hd r) ⟨tupleKind_room_in1 hu,k,xs,nu I.av eb,dd,h _ _ (I.tok _) ?_⟩
  rw [l]
  exact (rel.val k).getD rd
end
def BX (td ty tx:TE):TE:=fun σ H Q=>td σ H fun x H1=>∃ a,x=.ref a/\P8 H1 a/\ty σ H1 fun y H2=>tx σ H2 fun z H3=>∃ o,kQ H3 a y o/\Q (o.getD z) H3
section
variable {X:Cx}{o e f:Expr}{apos cR:Pos}{td ty tx:TE}
theorem Vk (hu:X.A.units+1<cLine)(ho:PE X o td)(he:PE X e ty)(hf:PE X f tx)(m:M2 X o "get" apos e f cR):PE X (.Call (.Attribute o "get" apos) [e,f] [] cR) (BX td ty tx):=by
 intro pins s σ H Q I h
 refine wpAny_Call_method m.base m.few m.line PySem.F.plainAttrs_dict PySem.F.slot_dict_get PySem.F.type_dict_get (ay (ho pins s σ H _ I h) fun u s1 ⟨x,H1,I1,rx,a,ex,d,q1⟩=>?_)
 subst ex
 obtain rfl:u=Value.ref a:=rx
 obtain ⟨t1,t2,_⟩:=Ys I1 d
 refine ⟨t1,t2,?_⟩
 rw [m.trees]
 refine Calls.callWith_builtin rfl (Calls.evalArgs_plain (Calls.spliced_cons (ay (he pins s1 σ H1 _ I1 q1) fun iv s2 ⟨y,H2,I2,ry,q2⟩ =>
  Calls.spliced_cons (ay (hf pins s2 σ H2 _ I2 q2) fun fv s3 ⟨z,H3,I3,rz,ov,g,q3⟩=>Calls.spliced_nil ?_))))
 exact Yt hu I3 g ry rz fun w' s4 I4 iH=>⟨_,H3,I4,iH,q3⟩
end
section
variable {ι:Type}{F:aY ι}{e a b c:Expr}{ρ:En}{t ta tb':Tr}{pos:Pos}
theorem sM {u v:V}(ha:Ev F a ρ (.fz (.fl u)))(hb:Ev F b ρ (.fz (.fl v)))(hs:Dn u v=true):Et F (.Compare a [.Eq] [b] pos) ρ (decide (u=v)) :=
 j4 (fun _=>MS) ha hb (fun G H x y Q s hx hy k=>by rw [bf hx,bf hy];exact ⟨hs,k⟩) (iW _)
end
theorem cX.to {ι:Type}{F:aY ι}{e:Expr}{ρ:En}{p q:Bool}(h:cX F e ρ p)(z:p=q):cX F e ρ q:=z ▸ h
structure uw (ι:Type) where
 i : ι
 XE:Value->Shared->Prop
 pn:List (Addr×Obj)
def mw {ι:Type}(F:aY ι):aY (uw ι) where
 cx i:=(F.cx i.i).gM i.XE i.pn
 P:=F.P
 w:=F.w
 K:=F.K
 mg:=F.mg
 base:=F.base
 room:=F.room
 hP i:=F.hP i.i
 hw i:=F.hw i.i
 hK i:=F.hK i.i
 hm i:=F.hm i.i
 hb i:=F.hb i.i
 hr i:=F.hr i.i
 calm i:=F.calm i.i
structure P9 (K:PySem.W.Frag) (mg:Str->Option Value) (x:Str) (D:Addr):Prop where
 g:mg x=some (.ref D)
 t:PySem.W.typeIn K (.ref D)=some (.type "type")
 i:PySem.W.isClsIn K D=true
 e:PySem.W.subIn K (.ref D) (.type "BaseException")=some true
end L2
namespace L2
open PySem
def ic (M:Model)(Γ:Ctx)(p:Pos)(s:Shared)(e:End)(s':Shared)(g:Nat)(r:Resume)(k:GenResult->Sem Fin):Prop :=
 match s.gens[g]? with
  |none=>False
  |some (.fresh c)=>(match r with
   | .send .none=>∃ e1 s1,Runs M (Γ.wake c p) p (M.den c) [] (s.setGen g .running) e1 s1/\Runs M Γ p (k e1.result) [] (s1.setGen g e1.genState) e s'
   | .send _=>Runs M Γ p (k .justStarted) [] s e s'
   | .throw x=>Runs M Γ p (k (.raised x)) [] (s.setGen g .finished) e s')
  |some (.suspended k0 _ c0 p0 fs _)=>∃ e1 s1,Runs M (Γ.wake c0 p) p0 (k0 r) fs (s.setGen g .running) e1 s1/\Runs M Γ p (k e1.result) [] (s1.setGen g e1.genState) e s'
  |some .running=>Runs M Γ p (k .running) [] s e s'
  |some .finished=>Runs M Γ p (k .finished) [] s e s'
def iC (M:Model)(Γ:Ctx)(p:Pos)(s:Shared)(e:End)(s':Shared):Sem Fin->Prop
 | .pure (.done f)=>e=.ret (.ok f)/\s'=s
 | .pure (.again c)=>Runs M (Γ.goto c) p (M.den c) [] s e s'
 | .raise x=>e=.ret (.error x)/\s'=s
 | .rule _ k=>Runs M Γ p (k ()) [] s e s'
 | .at p' k=>Runs M Γ p' (k ()) [] s e s'
 | .load a _ k=>∃ o,s.heap.get? a=some o/\Runs M Γ p (k o) [] s e s'
 | .update a _ f k=>Runs M Γ p (k ()) [] { s with heap:=s.heap.update a f } e s'
 | .loadIfAlive a k=>Runs M Γ p (k (s.heap.get? a)) [] s e s'
 | .point _ k=>Runs M Γ p (k ()) [] s e s'
 | .alloc o k=>Runs M Γ p (k s.heap.objs.size) [] { s with heap:=s.heap.push o } e s'
 | .fresh k=>Runs M Γ p (k s.toks) [] { s with toks:=s.toks+1 } e s'
 | .ask k=>Runs M Γ p (k ⟨M.prog,M.w.params⟩) [] s e s'
 | .choose src n k=>Runs M Γ p (k (M.w.draws src (s.drawn.get src) % n)) [] { s with drawn:=s.drawn.bump src } e s'
 | .os q _ k=>Runs M Γ p (k (Os.step s.os q).2) [] { s with os:=(Os.step s.os q).1 } e s'
 | .handled own k=>Runs M Γ p (k (if own then Γ.own else Γ.handled)) [] s e s'
 | .genState g k=>∃ st,s.gens[g]?=some st/\Runs M Γ p (k st.seen) [] s e s'
 | .stack k=>Runs M Γ p (k ((Γ.code,p)::Γ.below)) [] s e s'
 | .thread k=>Runs M Γ p (k 0) [] s e s'
 | .newGen c k=>Runs M Γ p (k s.gens.size) [] { s with gens:=s.gens.push (.fresh c) } e s'
 | .call c h g l k=>∃ e1 s1,Runs M (Γ.enter c h p) p (M.den c) [] s e1 s1/\(match e1 with
   | .ret r=>Runs M Γ p (k r) [] s1 e s'
   | .susp v g0 l0 k0 c0 p0 fs=>e=.susp v g0 l0 k0 c0 p0 (fs++[.ret k h g l Γ.code p []])/\s'=s1)
 | .yield v g l k=>e=.susp v g l k Γ.code p []/\s'=s
 | .resume g r _ k=>ic M Γ p s e s' g r k
 |_=>False
def Inv1 (M:Model)(Γ:Ctx)(p:Pos)(t:Sem Fin)(F:Frame)(fs:List Frame)(s:Shared)(e:End)(s':Shared):Prop :=
 ∃ e1 s1,Runs M (Γ.over (F::fs)) p t [] s e1 s1/\(match e1 with
  | .ret r=>(match F with
   | .ret k _ _ _ c1 p1 _=>Runs M (Γ.goto c1) p1 (k r) fs s1 e s'
   | .gen g k _ c1 p1=>Runs M (Γ.goto c1) p1 (k (End.ret r).result) fs (s1.setGen g .finished) e s')
  | .susp v g0 l0 k0 c0 p0 Qa=>(match splitAtGen (F::fs) with
   |none=>e=.susp v g0 l0 k0 c0 p0 (Qa++F::fs)/\s'=s1
   |some (pre,(g,k,c1,p1),rest)=>Runs M (Γ.goto c1) p1 (k (.yielded v)) rest (s1.setGen g (End.susp v g0 l0 k0 c0 p0 (Qa++pre)).genState) e s'))
def iD (M:Model)(Γ:Ctx)(p:Pos)(t:Sem Fin)(fs:List Frame)(s:Shared)(e:End)(s':Shared):Prop :=
 match fs with
 |[] => iC M Γ p s e s' t
 |F::fs=>Inv1 M Γ p t F fs s e s'
theorem cb {M:Model}{Γ:Ctx}{p:Pos}{t:Sem Fin}{fs:List Frame}{s:Shared}{e:End}{s':Shared}(h:Runs M Γ p t fs s e s'):iD M Γ p t fs s e s':=by
 cases h with
 |done=>exact ⟨rfl,rfl⟩
 |raise=>exact ⟨rfl,rfl⟩
 |again _ h=>exact h
 |rule h=>exact h
 | «at» h=>exact h
 |load ho h=>exact ⟨_,ho,h⟩
 |update _ h=>exact h
 |loadIfAlive h=>exact h
 |point h=>exact h
 |alloc h=>exact h
 |fresh h=>exact h
 |ask h=>exact h
 |choose _ h=>exact h
 |os h=>exact h
 |handled h=>exact h
 |genState ho h=>exact ⟨_,ho,h⟩
 |stack h=>exact h
 |thread h=>exact h
 |newGen h=>exact h
 |call h1 h2=>exact ⟨_,_,h1,h2⟩
 |callSusp h1=>exact ⟨_,_,h1,rfl,rfl⟩
 |yield=>exact ⟨rfl,rfl⟩
 |resumeFresh h1 h2 _ h4=>dsimp only [iD,iC,ic];rw [h1];exact ⟨_,_,h2,h4⟩
 |resumeSuspended h1 h2 _ h4=>dsimp only [iD,iC,ic];rw [h1];exact ⟨_,_,h2,h4⟩
 |resumeJustStarted h1 h2 h3 =>
  dsimp only [iD,iC,ic]
  rw [h1]
  dsimp only
  split
  ·rename_i z
   first | exact absurd (by injection z) h2 | exact absurd rfl h2
  ·exact h3
  ·rename_i z;cases z
 |resumeThrowFresh h1 h2=>dsimp only [iD,iC,ic];rw [h1];exact h2
 |resumeRunning h1 h2=>dsimp only [iD,iC,ic];rw [h1];exact h2
 |resumeFinished h1 h2=>dsimp only [iD,iC,ic];rw [h1];exact h2
 |segRet h1 h2=>exact ⟨_,_,h1,h2⟩
 |segGen h1 h2=>exact ⟨_,_,h1,h2⟩
 |segSuspOut h0 h1=>exact ⟨_,_,h1,by rw [h0];exact ⟨rfl,rfl⟩⟩
 |segSuspGen h0 h1 _ h2=>exact ⟨_,_,h1,by rw [h0];exact h2⟩
theorem AO {M:Model}{Γ:Ctx}{p:Pos}{t:Sem Fin}{fs:List Frame}{s:Shared}{e:End}{s':Shared}(h:Runs M Γ p t fs s e s'):∀ {e2:End} {s2:Shared},Runs M Γ p t fs s e2 s2->e=e2/\s'=s2:=by
 induction h with
 |done=>intro e2 s2 g;obtain ⟨rfl,rfl⟩:=cb g;exact ⟨rfl,rfl⟩
 |raise=>intro e2 s2 g;obtain ⟨rfl,rfl⟩:=cb g;exact ⟨rfl,rfl⟩
 |again _ _ ih=>intro e2 s2 g;exact ih (cb g)
 |rule _ ih=>intro e2 s2 g;exact ih (cb g)
 | «at» _ ih=>intro e2 s2 g;exact ih (cb g)
 |load ho _ ih=>intro e2 s2 g;obtain ⟨o,h1,g⟩:=cb g;rw [ho] at h1;cases h1;exact ih g
 |update _ _ ih=>intro e2 s2 g;exact ih (cb g)
 |loadIfAlive _ ih=>intro e2 s2 g;exact ih (cb g)
 |point _ ih=>intro e2 s2 g;exact ih (cb g)
 |alloc _ ih=>intro e2 s2 g;exact ih (cb g)
 |fresh _ ih=>intro e2 s2 g;exact ih (cb g)
 |ask _ ih=>intro e2 s2 g;exact ih (cb g)
 |choose _ _ ih=>intro e2 s2 g;exact ih (cb g)
 |os _ ih=>intro e2 s2 g;exact ih (cb g)
 |handled _ ih=>intro e2 s2 g;exact ih (cb g)
 |genState ho _ ih=>intro e2 s2 g;obtain ⟨o,h1,g⟩:=cb g;rw [ho] at h1;cases h1;exact ih g
 |stack _ ih=>intro e2 s2 g;exact ih (cb g)
 |thread _ ih=>intro e2 s2 g;exact ih (cb g)
 |newGen _ ih=>intro e2 s2 g;exact ih (cb g)
 |call _ _ gC jH =>
  intro e2 s2 g
  obtain ⟨e1,s1,g1,g2⟩:=cb g
  obtain ⟨a,b⟩:=gC g1
  subst a
  subst b
  exact jH g2
 |callSusp _ gC =>
  intro e2 s2 g
  obtain ⟨e1,s1,g1,g2⟩:=cb g
  obtain ⟨a,b⟩:=gC g1
  subst a
  subst b
  exact ⟨g2.1.symm,g2.2.symm⟩
 |yield=>intro e2 s2 g;obtain ⟨rfl,rfl⟩:=cb g;exact ⟨rfl,rfl⟩
 |resumeFresh h1 _ h3 _ gC jH =>
  intro e2 s2 g
  have g:=cb g
  dsimp only [iD,iC,ic] at g
  rw [h1] at g
  obtain ⟨e1,s1,g1,g2⟩:=g
  obtain ⟨a,b⟩:=gC g1
  subst a
  subst b
  exact jH g2
 |resumeSuspended h1 _ h3 _ gC jH =>
  intro e2 s2 g
  have g:=cb g
  dsimp only [iD,iC,ic] at g
  rw [h1] at g
  obtain ⟨e1,s1,g1,g2⟩:=g
  obtain ⟨a,b⟩:=gC g1
  subst a
  subst b
  exact jH g2
 |resumeJustStarted h1 h2 _ ih =>
  intro e2 s2 g
  have g:=cb g
  dsimp only [iD,iC,ic] at g
  rw [h1] at g
  dsimp only at g
  split at g
  ·rename_i z
   first | exact absurd (by injection z) h2 | exact absurd rfl h2
  ·exact ih g
  ·rename_i z;cases z
 |resumeThrowFresh h1 _ ih =>
  intro e2 s2 g
  have g:=cb g
  dsimp only [iD,iC,ic] at g
  rw [h1] at g
  exact ih g
 |resumeRunning h1 _ ih =>
  intro e2 s2 g
  have g:=cb g
  dsimp only [iD,iC,ic] at g
  rw [h1] at g
  exact ih g
 |resumeFinished h1 _ ih =>
  intro e2 s2 g
  have g:=cb g
  dsimp only [iD,iC,ic] at g
  rw [h1] at g
  exact ih g
 |segRet _ _ gC jH =>
  intro e2 s2 g
  obtain ⟨e1,s1,g1,g2⟩:=cb g
  obtain ⟨a,b⟩:=gC g1
  subst a
  subst b
  exact jH g2
 |segGen _ _ gC jH =>
  intro e2 s2 g
  obtain ⟨e1,s1,g1,g2⟩:=cb g
  obtain ⟨a,b⟩:=gC g1
  subst a
  subst b
  exact jH g2
 |segSuspOut h1 _ gC =>
  intro e2 s2 g
  obtain ⟨e1,s1,g1,g2⟩:=cb g
  obtain ⟨a,b⟩:=gC g1
  subst a
  subst b
  dsimp only at g2
  rw [h1] at g2
  exact ⟨g2.1.symm,g2.2.symm⟩
 |segSuspGen h1 _ _ _ gC jH =>
  intro e2 s2 g
  obtain ⟨e1,s1,g1,g2⟩:=cb g
  obtain ⟨a,b⟩:=gC g1
  subst a
  subst b
  dsimp only at g2
  rw [h1] at g2
  exact jH g2
theorem Ut {M:Model}{Γ:Ctx}{p:Pos}{g:Nat}{r:Resume}{s:Shared}{a b:GenResult}{s1 s2:Shared}(h:Wakes M Γ p g r s a s1)(h':Wakes M Γ p g r s b s2):a=b/\s1=s2:=by
 unfold Wakes at h h'
 split at h
 ·exact h.elim
 ·rename_i c hc
  simp only [hc] at h'
  split at h
  ·obtain ⟨e,t,x1,_,rfl,rfl⟩:=h
   obtain ⟨e',t',y1,_,rfl,rfl⟩:=h'
   obtain ⟨rfl,rfl⟩:=AO x1 y1
   exact ⟨rfl,rfl⟩
  ·rename_i hn
   split at h'
   ·rename_i q
    first | exact (hn (by injection q)).elim | exact (hn rfl).elim | (cases q;exact (hn rfl).elim)
   ·exact ⟨h.1.trans h'.1.symm,h.2.trans h'.2.symm⟩
   ·rename_i q;cases q
  ·exact ⟨h.1.trans h'.1.symm,h.2.trans h'.2.symm⟩
 ·rename_i hc
  simp only [hc] at h'
  obtain ⟨e,t,x1,_,rfl,rfl⟩:=h
  obtain ⟨e',t',y1,_,rfl,rfl⟩:=h'
  obtain ⟨rfl,rfl⟩:=AO x1 y1
  exact ⟨rfl,rfl⟩
 ·rename_i hc
  simp only [hc] at h'
  exact ⟨h.1.trans h'.1.symm,h.2.trans h'.2.symm⟩
 ·rename_i hc
  simp only [hc] at h'
  exact ⟨h.1.trans h'.1.symm,h.2.trans h'.2.symm⟩
theorem Yu {α:Type}{M:Model}{Γ:Ctx}{Q Q' : α->Pos->Shared->Prop}{E E':Value->Pos->Shared->Prop}(t:Sem α):∀ {p:Pos} {s:Shared},Sem.wp M Γ t Q E p s->Sem.wp M Γ t Q' E' p s ->
  Sem.wp M Γ t (fun a p s=>Q a p s/\Q' a p s) (fun e p s=>E e p s/\E' e p s) p s:=by
 induction t with
 |pure a=>intro p s h h';exact ⟨h,h'⟩
 |raise e=>intro p s h h';exact ⟨h,h'⟩
 |unsupported _=>intro p s h h';exact h
 |finish _=>intro p s h h';exact h
 |rule _ k ih=>intro p s h h';exact ih _ h h'
 | «at» _ k ih=>intro p s h h';exact ih _ h h'
 |load a _ k ih=>rintro p s ⟨o,x,h⟩ ⟨o',x',h'⟩;rw [x] at x';cases x';exact ⟨o,x,ih _ h h'⟩
 |update a _ f k ih=>rintro p s ⟨x,h⟩ ⟨_,h'⟩;exact ⟨x,ih _ h h'⟩
 |loadIfAlive a k ih=>intro p s h h';exact ih _ h h'
 |point _ k ih=>intro p s h h';exact ih _ h h'
 |register _ _=>intro p s h h';exact h
 |alloc o k ih=>intro p s h h';exact ih _ h h'
 |fresh k ih=>intro p s h h';exact ih _ h h'
 |ask k ih=>intro p s h h';exact ih _ h h'
 |choose src n k ih=>rintro p s ⟨x,h⟩ ⟨_,h'⟩;exact ⟨x,ih _ h h'⟩
 |os q _ k ih=>intro p s h h';exact ih _ h h'
 |call c h0 _ _ k ih =>
  rintro p s ⟨r,s1,x,h⟩ ⟨r',ux,x',h'⟩
  obtain ⟨a,b⟩:=AO x x'
  cases a
  subst b
  exact ⟨r,s1,x,ih _ h h'⟩
 |handled own k ih=>intro p s h h';exact ih _ h h'
 |genState g k ih=>rintro p s ⟨o,x,h⟩ ⟨o',x',h'⟩;rw [x] at x';cases x';exact ⟨o,x,ih _ h h'⟩
 |newGen c k ih=>intro p s h h';exact ih _ h h'
 |resume g r _ k ih =>
  rintro p s ⟨a,s1,x,h⟩ ⟨b,s2,x',h'⟩
  obtain ⟨rfl,rfl⟩:=Ut x x'
  exact ⟨a,s1,x,ih _ h h'⟩
 |yield=>intro p s h h';exact h
 |stack k ih=>intro p s h h';exact ih _ h h'
 |fork=>intro p s h h';exact h
 |thread k ih=>intro p s h h';exact ih _ h h'
 |await=>intro p s h h';exact h
theorem two {α:Type}{M:Model}{A:Around}{t:Sem α}{Q Q' R : α->Shared->Prop}{E E':Value->Shared->Prop}{s:Shared}(h:wpAny M A t Q E s)(h':wpAny M A t Q' E' s)(k:∀ a s,Q a s->Q' a s->R a s):wpAny M A t R E s :=
 fun Γ p g=>Sem.wp_mono M Γ t (fun a _ s z=>k a s z.1 z.2) (fun e _ s z=>z.1) p s (Yu t (h Γ p g) (h' Γ p g))
theorem Uu (f:Array Value->Array Value)(o:Obj):(Obj.mapFields f o).dict=o.dict:=by
 unfold Obj.mapFields
 repeat' split
 all_goals rfl
def lq (h:Heap)(e:Addr)(d:Option Addr):Prop:=∃ o vs T oT ts,h.get? e=some o/\o.data=.fields vs/\(o.dict=d/\vs[2]?=some .none)/\vs[1]?=some (.ref T)/\T ≠ e/\h.get? T=some oT/\oT.data=.fields ts/\3<ts.size
section
variable {M:Model}{A:Around}{E:Value->Shared->Prop}{s:Shared}{e:Addr}{dx:Option Addr}
theorem vh (h:lq s.heap e dx):wpAny M A (setFlight (.ref e) none) (fun _ s'=>lq s'.heap e dx) E s:=by
 obtain ⟨o,vs,T,oT,ts,he,hd,hx,h1,ne,hT,oj,hz⟩:=h
 unfold setFlight
 refine wpAny_bind (wpAny_field he hd h1 ?_)
 rw [if_pos (by simp)]
 refine wpAny_setField hT oj hz ?_
 refine ⟨o,vs,T,_,_,(Heap.get?_update_other _ _ ne).trans he,hd,hx,h1,ne,Heap.get?_update_self _ hT (Obj.isFreed_of_fields (Obj.data_mapFields oj _)),Obj.data_mapFields oj _,by simpa using hz⟩
theorem JS {base:Heap}{env:Env}{outer:List Env}{L:Addr}{o:Obj}{vs:Array Value}{head:Value}{b:Bool}(gw:A.frames=some (env::outer))(hl:s.heap.FunFrames base (env::outer))(hf:env.frame=some L)(he:s.heap.get? e=some o)(hd:o.data=.fields vs)(hz : 1<vs.size)(hx:o.dict=dx)(h2:vs[2]?=some .none) :
  wpAny M A (do setField (.ref e) 1 (<- EntryCells.newEntry head (<- frameOf env) .none (rawInt L) .none (<- entryPlaceOf L b))) (fun _ s'=>lq s'.heap e dx) E s:=by
 have nf:e ∉ (env::outer).filterMap (·.frame):=fun hm=>by
  obtain ⟨_,u,hu,nn⟩:=hl.mem hm
  rw [he] at hu
  cases hu
  exact nn vs hd
 refine wpAny_bind (wpAny_frameOf_fun gw hl hf fun h1 q1=>?_)
 refine wpAny_bind (wpAny_entryPlaceOf fun pl hp=>?_)
 unfold EntryCells.newEntry newFields
 refine wpAny_bind (wpAny_newObj_type ?_ (hp.sizeOk5 _ _ _ _ _))
 have e1:h1.get? e=some o:=(q1.2.1 e nf).trans he
 have e2:=fun z=>Heap.get?_push_of_some (h:=h1) z e1
 refine wpAny_setField (e2 _) hd hz ?_
 have ne:h1.objs.size ≠ e:=Nat.ne_of_gt (Heap.lt_size e1)
 have d3:=Obj.data_mapFields hd (·.setIfInBounds 1 (Value.ref h1.objs.size))
 refine ⟨_,_,h1.objs.size,_,_,Heap.get?_update_self _ (e2 _) (Obj.isFreed_of_fields d3),d3,⟨(Uu _ _).trans hx,by rw [Array.getElem?_setIfInBounds_ne (by decide)];exact h2⟩,by simp [hz],ne,(Heap.get?_update_other _ _ (Ne.symm ne)).trans (Heap.get?_push_size h1 rfl),rfl,?_⟩
 simp only [List.size_toArray,List.length_append,List.length_cons,List.length_nil]
 omega
theorem Tu {base:Heap}{env:Env}{outer:List Env}{L:Addr}{o:Obj}{vs:Array Value}(gw:A.frames=some (env::outer))(hl:s.heap.FunFrames base (env::outer))(hf:env.frame=some L)(he:s.heap.get? e=some o)(hd:o.data=.fields vs)(h1:vs[1]?=some .none)(hx:o.dict=dx)(h2:vs[2]?=some .none) :
  wpAny M A (noteFrame (.ref e) env) (fun _ s'=>lq s'.heap e dx) E s:=by
 unfold noteFrame
 simp only [hf]
 refine wpAny_bind (wpAny_field he hd h1 ?_)
 rw [if_neg (by decide)]
 exact JS gw hl hf he hd (Array.getElem?_eq_some_iff.mp h1).1 hx h2
theorem Jk {base:Heap}{env:Env}{outer:List Env}{L:Addr}{C a0:Value}(gw:A.frames=some (env::outer))(hf:env.frame=some L)(hw:Heap.FlyingW base (env::outer) e C a0 s.heap)(hx:lq s.heap e dx) :
  wpAny M A (noteFrame (.ref e) env) (fun _ s'=>lq s'.heap e dx) E s:=by
 obtain ⟨f1,f2,f3,oe,vs,T,oT,ts,he,_,hd,h1,hnT,ne,hT,oj,h3⟩:=hw
 obtain ⟨o',mO,_,_,_,lr,mF,⟨hx,h2⟩,_⟩:=hx
 rw [he] at lr
 cases lr
 rw [hd] at mF
 cases mF
 unfold noteFrame
 simp only [hf]
 refine wpAny_bind (wpAny_field he hd h1 ?_)
 rw [if_pos (by simp)]
 refine wpAny_bind (wpAny_field hT oj h3 ?_)
 rw [if_neg (show ¬ ((Value.none==rawInt L)=true) from by simp [rawInt])]
 refine wpAny_bind (wpAny_setField hT oj (Array.getElem?_eq_some_iff.mp h3).1 ?_)
 have Qb:∀ b,b ≠ T->(s.heap.update T (Obj.mapFields (·.setIfInBounds 3 Value.none))).get? b=s.heap.get? b:=fun b hb=>Heap.get?_update_other _ _ (Ne.symm hb)
 refine JS (base:=base) gw (f3.of_keeps fun b o hb hn=>⟨o,(Qb b fun q=>?_).trans hb,rfl⟩) hf ((Qb e (Ne.symm ne)).trans he) hd (Array.getElem?_eq_some_iff.mp h1).1 hx h2
 rw [q,hT] at hb
 cases hb
 exact hn ts oj
end
end L2
namespace L2
open PySem PySem.Spec PyProof.Rows PySem.W PySem.Builtin PySem.Builtin.ObjectAttr
def i7 (e C:Addr)(d:Option Addr):HO:=.ext fun h=>∃ o vs,h.get? e=some o/\o.cls=.ref C/\o.data=.fields vs/\(o.dict=d/\vs[2]?=some .none)
end L2
namespace L2
open PySem PySem.Spec PyProof.Rows
def cn (P:Program)(w:World):e9:=fun outer H s E e s'=>∃ x C d H',e=.ref x/\qa P w outer H s x C H' s'/\lq s'.heap x d/\E (.ref C) (some x) (upd H' x (i7 x C d))
section
variable {X:Cx}
def Zr (K:PySem.W.Frag):List V->Hp->VK->Prop:=fun xs H Q=>∃ a c b C dx,xs=[.ref a,c]/\H a=some (i7 a C dx)/\gq K C/\(∀ u,RelV c u->PySem.W.kitOne K (.ref C) u=some b)/\Q (.bl b) H
theorem gH {K:PySem.W.Frag}(h:X.K=K):fB X (.builtin "isinstance") (Zr K):=by
 subst h
 intro pins s σ H xs us Q I r h
 obtain ⟨a,c,b,C,dx,rfl,hH,ask,hk,q⟩:=h
 cases r with
 |cons r1 rr=>cases rr with
  |cons r2 rr =>
   cases rr
   cases r1
   obtain ⟨⟨o,vs,h1,h2,h3,_⟩,_,_⟩:=I.av a _ hH
   exact PySem.W.kia_one (U4 ask) I.cU ⟨o,vs,h1,h2,h3⟩ (hk _ r2) (by intro z;cases z) fun tk=>⟨.bl b,H,I.tok tk,rfl,q⟩
end
section
variable (P:Program) (w:World) (K:PySem.W.Frag) (mg:Str->Option Value) (base:Heap) (N:List Str) (qual:Str) (sc:Scope) (f:Addr) (k:Nat)
def bw (i:qS k qual sc f):Cx:=cJ (cn P w) P w K mg base N qual sc f i.aU i.A i.outer i.s i.H i.E
def mz:aY (qS k qual sc f) where
 cx i:=(bw P w K mg base N qual sc f k i).e8
 P:=P
 w:=w
 K:=K
 mg:=mg
 base:=base
 room:=k
 hP _:=rfl
 hw _:=rfl
 hK _:=rfl
 hm _:=rfl
 hb _:=rfl
 hr i:=i.hr
 calm _:=rfl
end
section
variable {P:Program}{w:World}{K:PySem.W.Frag}{mg:Str->Option Value}{base:Heap}{N:List Str}{qual:Str}{sc:Scope}{f:Addr}{k:Nat}{ρ ρ1:En}{st:Stmt}{bA A B:List Stmt}{C:Addr}{n:Str}{v:V}{c:Expr}{pos:Pos}
theorem iw.gY {x:Str}{st:Stmt}{dV:Value}{fd:FuncData}{ps:List Str}{sp:Sp}(F:iw K x qual st dV f fd)(S:bj N ps (ah st))(len:∀ vs H Q E,sp vs H Q E->vs.length=ps.length)(kH:∀ (aU:Value) (A:Around) (outer:List Env) (s:Shared) (H:Hp) (vs:List V) (Q:VK) (E:XK),cQ k (A.deeper (envOfC qual (ah st) s.heap.objs.size f aU))->sp vs H Q E ->
   ∃ t,cL (cJ (cn P w) P w K mg base N qual (ah st) f aU A outer s H E) (aN st) t/\t { nx:=fun _ H'=>Q .aS H',rt:=Q } (start N vs) H):aM P w K mg base (cn P w) (k+1) f fd ps sp:=by
 obtain ⟨oc,od,kV,doc,pm,an,aU,ct,gu,rfl,lk,eC⟩:=F.ex
 exact MY lk eC S len fun A outer s H vs Q E hr iG=>kH aU A outer s H vs Q E hr iG
end
end L2
namespace So
open PySem PyProof.Rows
abbrev GC:=Option (Option Nat)×Nat×Nat
abbrev SM:=StateT SortSt Sem
def DB:Bool->Keyed->Array Keyed->Nat->Nat->Nat->SM (Option Nat):=sortPriv% PySem.Builtin.gallop
def mLo:Array Keyed->Array Keyed->SM (Array Keyed):=sortPriv% PySem.Builtin.mergeLo
def mHi:Array Keyed->Array Keyed->SM (Array Keyed):=sortPriv% PySem.Builtin.mergeHi
def tQ (left:Bool)(key:Keyed)(arr:Array Keyed)(base i:Nat):SM (Option Bool):=do
 let x <- elem' arr (base+i)
 if left=true then lt' x key else do
  let r <- lt' key x
  pure (r.map fun b=>!b)
section
variable {prog:Program}{w:World}{A:Around}{E:Value->Shared->Prop}{s:Shared}
theorem KS {left:Bool}{key:Keyed}{arr:Array Keyed}{base n hint:Nat}{st:SortSt}{Q:Option Nat->SortSt->Prop}(p:Nat->Bool)(uy:∀ (i:Nat) (Q:Option Bool->SortSt->Prop),i<n->Q (some (p i)) st->wpS (model prog w) A E s (tQ left key arr base i) Q st)(mono:∀ i j,i<=j->j<n->p j=true->p i=true)(hh:hint<n)(h:∀ k,k<=n->(∀ i,i<k->p i=true)->(∀ i,k<=i->i<n->p i=false)->Q (some k) st) :
  wpS (model prog w) A E s (DB left key arr base n hint) Q st:=by
 have CK:∀ i j,i<=j->j<n->p i=false->p j=false:=fun i j h1 h2 h3=>by
  cases e:p j with
  |false=>rfl
  |true=>rw [mono i j h1 h2 e] at h3;cases h3
 refine wpS_bind (uy hint _ hh ?_)
 dsimp only
 have bin:∀ lo hi,lo<=hi->hi<=n->(∀ i,i<lo->p i=true)->(∀ i,hi<=i->i<n->p i=false) ->
   ∀ f:Nat->GC->SM (ForInStep GC),(∀ (x lo hi:Nat) (Q:ForInStep GC->SortSt->Prop),hi<=n ->
    (hi<=lo->Q (.done (none,lo,hi)) st)->(lo<hi->p (lo+(hi-lo) / 2)=true->Q (.yield (none,lo+(hi-lo) / 2+1,hi)) st)->(lo<hi->p (lo+(hi-lo) / 2)=false->Q (.yield (none,lo,lo+(hi-lo) / 2)) st) ->
    wpS (model prog w) A E s (f x (none,lo,hi)) Q st) ->
   wpS (model prog w) A E s (forIn [0:n] ((none,lo,hi):GC) f) (fun c ag=>ag=st/\∃ lo,c=(none,lo,lo)/\lo<=n/\(∀ i,i<lo->p i=true)/\(∀ i,lo<=i->i<n->p i=false)) st:=by
  intro lo hi h1 h2 h3 h4 f hf
  refine wpS_forRange (I:=fun x c ag=>ag=st/\∃ lo hi,c=(none,lo,hi)/\lo<=hi/\hi<=n/\hi-lo<=n-x/\(∀ i,i<lo->p i=true)/\(∀ i,hi<=i->i<n->p i=false)) ?_ ?_ ⟨rfl,lo,hi,rfl,h1,h2,by omega,h3,h4⟩
  ·rintro x c ag _ hx ⟨rfl,lo,hi,rfl,a1,a2,a3,a4,a5⟩
   refine hf x lo hi _ a2 (fun z=>?_) (fun z e=>?_) (fun z e=>?_)
   ·have:lo=hi:=by omega
    subst this
    exact ⟨rfl,lo,rfl,a2,a4,a5⟩
   ·exact ⟨rfl,_,_,rfl,by omega,a2,by omega,fun i Ep=>mono i (lo+(hi-lo) / 2) (by omega) (by omega) e,a5⟩
   ·exact ⟨rfl,_,_,rfl,by omega,by omega,by omega,a4,fun i b1 b2=>CK (lo+(hi-lo) / 2) i b1 b2 e⟩
  ·rintro c ag ⟨rfl,lo,hi,rfl,a1,a2,a3,a4,a5⟩
   have:lo=hi:=by omega
   subst this
   exact ⟨rfl,lo,rfl,a2,a4,a5⟩
 cases hp:p hint with
 |true =>
  simp only [if_true]
  refine wpS_bind (wpS_mono (wpS_forRange (I:=fun x c ag=>ag=st/\∃ l o,c=(none,l,o)/\o=2*l+1/\x<=l/\hint+l<n/\p (hint+l)=true)
   (Q:=fun c ag=>ag=st/\∃ l o,c=(none,l,o)/\l<o/\hint+l<n/\p (hint+l)=true/\(n-hint<=o\/p (hint+o)=false)) ?_ ?_ ⟨rfl,0,1,rfl,rfl,Nat.le_refl _,hh,hp⟩) ?_)
  ·rintro x c ag _ hx ⟨rfl,l,o,rfl,a1,a2,a3,a4⟩
   dsimp only
   by_cases fH:o >= n-hint
   ·rw [if_pos fH]
    exact wpS_pure ⟨rfl,l,o,rfl,by omega,a3,a4,.inl fH⟩
   ·rw [if_neg fH]
    refine wpS_bind (uy (hint+o) _ (by omega) ?_)
    dsimp only
    cases e:p (hint+o) with
    |true =>
     simp only [Bool.not_true,Bool.false_eq_true,if_false]
     exact wpS_pure ⟨rfl,o,2*o+1,rfl,rfl,by omega,by omega,e⟩
    |false =>
     simp only [Bool.not_false,if_true]
     exact wpS_pure ⟨rfl,l,o,rfl,by omega,a3,a4,.inr e⟩
  ·rintro c ag ⟨rfl,l,o,rfl,a1,a2,a3,a4⟩
   exact ⟨rfl,l,o,rfl,by omega,a3,a4,.inl (by omega)⟩
  ·rintro c ag ⟨rfl,l,o,rfl,a1,a2,a3,a4⟩
   dsimp only
   refine wpS_bind (wpS_mono (bin (hint+l+1) (hint+min o (n-hint)) (by omega) (by omega) (fun i hi=>mono i (hint+l) (by omega) (by omega) a3) (fun i b1 b2=>?_) _ (fun x lo hi Q hn k1 k2 k3=>?_)) ?_)
   ·rcases a4 with z | z
    ·omega
    ·by_cases ho:hint+o<=i
     ·exact CK (hint+o) i ho b2 z
     ·omega
   ·dsimp only
    by_cases fH:lo >= hi
    ·rw [if_pos fH];exact wpS_pure (k1 fH)
    ·rw [if_neg fH]
     refine wpS_bind (uy _ _ (by omega) ?_)
     dsimp only
     cases e:p (lo+(hi-lo) / 2) with
     |true=>simp only [if_true];exact wpS_pure (k2 (by omega) e)
     |false=>simp only [Bool.false_eq_true,if_false];exact wpS_pure (k3 (by omega) e)
   ·rintro c ag ⟨rfl,lo,rfl,b1,b2,b3⟩
    exact wpS_pure (h lo b1 b2 b3)
 |false =>
  simp only [Bool.false_eq_true,if_false]
  refine wpS_bind (wpS_mono (wpS_forRange (I:=fun x c ag=>ag=st/\∃ l o,c=(none,l,o)/\o=2*l+1/\x<=l/\l<=hint/\p (hint-l)=false)
   (Q:=fun c ag=>ag=st/\∃ l o,c=(none,l,o)/\l<o/\l<=hint/\p (hint-l)=false/\(hint+1<=o\/(o<=hint/\p (hint-o)=true))) ?_ ?_ ⟨rfl,0,1,rfl,rfl,Nat.le_refl _,Nat.zero_le _,hp⟩) ?_)
  ·rintro x c ag _ hx ⟨rfl,l,o,rfl,a1,a2,a3,a4⟩
   dsimp only
   by_cases fH:o >= hint+1
   ·rw [if_pos fH]
    exact wpS_pure ⟨rfl,l,o,rfl,by omega,a3,a4,.inl fH⟩
   ·rw [if_neg fH]
    refine wpS_bind (uy (hint-o) _ (by omega) ?_)
    dsimp only
    cases e:p (hint-o) with
    |true =>
     simp only [if_true]
     exact wpS_pure ⟨rfl,l,o,rfl,by omega,a3,a4,.inr ⟨by omega,e⟩⟩
    |false =>
     simp only [Bool.false_eq_true,if_false]
     exact wpS_pure ⟨rfl,o,2*o+1,rfl,rfl,by omega,by omega,e⟩
  ·rintro c ag ⟨rfl,l,o,rfl,a1,a2,a3,a4⟩
   exact ⟨rfl,l,o,rfl,by omega,a3,a4,.inl (by omega)⟩
  ·rintro c ag ⟨rfl,l,o,rfl,a1,a2,a3,a4⟩
   dsimp only
   refine wpS_bind (wpS_mono (bin (hint+1-min o (hint+1)) (hint-l) (by omega) (by omega) (fun i hi=>?_) (fun i b1 b2=>CK (hint-l) i b1 b2 a3) _ (fun x lo hi Q hn k1 k2 k3=>?_)) ?_)
   ·rcases a4 with z | z
    ·omega
    ·exact mono i (hint-o) (by omega) (by omega) z.2
   ·dsimp only
    by_cases fH:lo >= hi
    ·rw [if_pos fH];exact wpS_pure (k1 fH)
    ·rw [if_neg fH]
     refine wpS_bind (uy _ _ (by omega) ?_)
     dsimp only
     cases e:p (lo+(hi-lo) / 2) with
     |true=>simp only [if_true];exact wpS_pure (k2 (by omega) e)
     |false=>simp only [Bool.false_eq_true,if_false];exact wpS_pure (k3 (by omega) e)
   ·rintro c ag ⟨rfl,lo,rfl,b1,b2,b3⟩
    exact wpS_pure (h lo b1 b2 b3)
end
section
variable {κ:KeyKind}
def kf (κ:KeyKind)(x:Keyed) : κ.α:=(κ.keyOf x.1).getD κ.dflt
def dJ (κ:KeyKind)(l:List Keyed):Prop:=l.Pairwise fun x y=>κ.kle (kf κ x) (kf κ y)
def Kd (κ:KeyKind)(l:List Keyed):Prop:=∀ x ∈ l,(κ.keyOf x.1).isSome=true
structure MI (κ:KeyKind) (a b out:List Keyed) (ia ib:Nat):Prop where
 p:(out++(a.drop ia++b.drop ib)).Perm (a++b)
 x:dJ κ (out++a.drop ia)
 y:dJ κ (out++b.drop ib)
def Gd (κ:KeyKind)(a b m:List Keyed):Prop:=m.Perm (a++b)/\dJ κ m
variable {a b out:List Keyed}{ia ib:Nat}
theorem cP {l r:List Keyed}:dJ κ (l++r) ↔ dJ κ l/\dJ κ r/\∀ x ∈ l,∀ y ∈ r,κ.kle (kf κ x) (kf κ y):=List.pairwise_append
theorem MI.wF (h:MI κ a b out ia ib)(hb:b.length<=ib):Gd κ a b (out++a.drop ia++b.drop ib):=by
 have e:b.drop ib=[]:=List.drop_eq_nil_of_le hb
 have p:=h.p
 rw [e,List.append_nil] at p ⊢
 exact ⟨p,h.x⟩
theorem MI.Zt (h:MI κ a b out ia ib)(ha:a.length<=ia):Gd κ a b (out++a.drop ia++b.drop ib):=by
 have e:a.drop ia=[]:=List.drop_eq_nil_of_le ha
 have p:=h.p
 rw [e,List.nil_append] at p
 rw [e,List.append_nil]
 exact ⟨p,h.y⟩
theorem MI.Zu (h:MI κ a b out ia ib)(hl:∀ x ∈ b.drop ib,∀ y ∈ a.drop ia,κ.kle (kf κ x) (kf κ y)):Gd κ a b (out++b.drop ib++a.drop ia):=by
 refine ⟨?_,?_⟩
 ·refine List.Perm.trans ?_ h.p
  rw [List.append_assoc]
  exact List.Perm.append_left _ List.perm_append_comm
 ·have hx:=cP.mp h.x
  refine cP.mpr ⟨h.y,hx.2.1,fun x fU y hy=>?_⟩
  rcases List.mem_append.mp fU with z | z
  ·exact hx.2.2 x z y hy
  ·exact hl x z y hy
theorem MI.sZ (h:MI κ a b out ia ib)(k:Nat)(hl:∀ x ∈ (a.drop ia).take k,∀ y ∈ b.drop ib,κ.kle (kf κ x) (kf κ y)):MI κ a b (out++(a.drop ia).take k) (ia+k) ib:=by
 have e:(a.drop ia).take k++a.drop (ia+k)=a.drop ia:=by rw [<- List.drop_drop];exact List.take_append_drop k _
 have hy:=cP.mp h.y
 have hx:=cP.mp h.x
 refine ⟨?_,?_,?_⟩
 ·have:=h.p
  rw [<- e] at this
  rw [List.append_assoc]
  rw [List.append_assoc] at this
  exact this
 ·rw [List.append_assoc,e];exact h.x
 ·rw [cP,cP]
  have hs:dJ κ ((a.drop ia).take k):=List.Pairwise.sublist (List.take_sublist k _) hx.2.1
  refine ⟨⟨hy.1,hs,fun x fU y cW=>hx.2.2 x fU y (List.mem_of_mem_take cW)⟩,hy.2.1,fun x fU y cW=>?_⟩
  rcases List.mem_append.mp fU with z | z
  ·exact hy.2.2 x z y cW
  ·exact hl x z y cW
theorem MI.tf (h:MI κ a b out ia ib)(k:Nat)(hl:∀ x ∈ (b.drop ib).take k,∀ y ∈ a.drop ia,κ.kle (kf κ x) (kf κ y)):MI κ a b (out++(b.drop ib).take k) ia (ib+k):=by
 have e:(b.drop ib).take k++b.drop (ib+k)=b.drop ib:=by rw [<- List.drop_drop];exact List.take_append_drop k _
 have hy:=cP.mp h.y
 have hx:=cP.mp h.x
 refine ⟨?_,?_,?_⟩
 ·refine List.Perm.trans ?_ h.p
  generalize (b.drop ib).take k=B1 at e
  generalize b.drop (ib+k)=B2 at e
  rw [<- e]
  generalize a.drop ia=A1
  rw [List.append_assoc]
  refine List.Perm.append_left _ ?_
  rw [<- List.append_assoc,<- List.append_assoc]
  exact List.Perm.append_right _ List.perm_append_comm
 ·rw [cP,cP]
  have hs:dJ κ ((b.drop ib).take k):=List.Pairwise.sublist (List.take_sublist k _) hy.2.1
  refine ⟨⟨hx.1,hs,fun x fU y cW=>hy.2.2 x fU y (List.mem_of_mem_take cW)⟩,hx.2.1,fun x fU y cW=>?_⟩
  rcases List.mem_append.mp fU with z | z
  ·exact hx.2.2 x z y cW
  ·exact hl x z y cW
 ·rw [List.append_assoc,e];exact h.y
theorem pI {l:List Keyed}{i:Nat}{x:Keyed}(h:l[i]?=some x):l.drop i=x::l.drop (i+1):=by
 obtain ⟨h1,rfl⟩:=List.getElem?_eq_some_iff.mp h
 exact List.drop_eq_getElem_cons h1
theorem m7 {l:List Keyed}{i:Nat}{x:Keyed}(h:dJ κ (l.drop i))(e:l[i]?=some x):∀ y ∈ l.drop i,κ.kle (kf κ x) (kf κ y):=fun y hy=>by
 rw [pI e] at h hy
 rcases List.mem_cons.mp hy with rfl | z
 ·exact KeyOrd.kle_refl _
 ·exact (List.pairwise_cons.mp h).1 y z
theorem MI.qc {y:Keyed}(h:MI κ a b out ia ib)(e:a[ia]?=some y)(hl:∀ z ∈ b.drop ib,κ.kle (kf κ y) (kf κ z)):MI κ a b (out++[y]) (ia+1) ib:=by
 have:=h.sZ 1 (by rw [pI e];intro x hx z hz;rw [List.take_succ_cons,List.take_zero,List.mem_singleton] at hx;rw [hx];exact hl z hz)
 rw [pI e] at this
 exact this
theorem MI.qd {y:Keyed}(h:MI κ a b out ia ib)(e:b[ib]?=some y)(hl:∀ z ∈ a.drop ia,κ.kle (kf κ y) (kf κ z)):MI κ a b (out++[y]) ia (ib+1):=by
 have:=h.tf 1 (by rw [pI e];intro x hx z hz;rw [List.take_succ_cons,List.take_zero,List.mem_singleton] at hx;rw [hx];exact hl z hz)
 rw [pI e] at this
 exact this
end
abbrev dH (st:SortSt)(g:Nat):SortSt:=SortSt.mk' (kindOf st) (arrOf st) (pendingOf st) g (failedOf st)
theorem pJ {α:Type}(a:Array α)(i:Nat):(a.extract i a.size).toList=a.toList.drop i:=by
 rw [Array.toList_extract,List.extract_eq_take_drop,List.take_of_length_le (by rw [List.length_drop,Array.length_toList];omega)]
theorem KU {α:Type}(a:Array α)(i k:Nat):(a.extract i (i+k)).toList=(a.toList.drop i).take k:=by simp [List.extract_eq_take_drop]
structure iM (prog:Program) (w:World) (A:Around) (E:Value->Shared->Prop) (s:Shared) (kd:SortKind) (κ:KeyKind):Prop where
 lt:∀ (st:SortSt) (x y:Keyed) (Q:Option Bool->SortSt->Prop),kindOf st=kd->(κ.keyOf x.1).isSome=true->(κ.keyOf y.1).isSome=true->Q (some (κ.blt (kf κ x) (kf κ y))) st->wpS (model prog w) A E s (lt' x y) Q st
section
variable {prog:Program}{w:World}{A:Around}{E:Value->Shared->Prop}{s:Shared}{kd:SortKind}{κ:KeyKind}
theorem cY {arr:Array Keyed}{i:Nat}{x:Keyed}{st:SortSt}{Q:Keyed->SortSt->Prop}(e:arr[i]?=some x)(h:Q x st):wpS (model prog w) A E s (elem' arr i) Q st:=by
 rw [elem'_eq,e];exact wpS_pure h
theorem byL (C:iM prog w A E s kd κ){key x:Keyed}{arr:Array Keyed}{base i:Nat}{st:SortSt}{Q:Option Bool->SortSt->Prop}(hk:kindOf st=kd)(e:arr[base+i]?=some x)(k1:(κ.keyOf key.1).isSome=true)(k2:(κ.keyOf x.1).isSome=true)(h:Q (some (κ.blt (kf κ x) (kf κ key))) st) :
  wpS (model prog w) A E s (tQ true key arr base i) Q st:=by
 unfold tQ
 refine wpS_bind (cY e ?_)
 rw [if_pos rfl]
 exact C.lt st x key _ hk k2 k1 h
theorem byR (C:iM prog w A E s kd κ){key x:Keyed}{arr:Array Keyed}{base i:Nat}{st:SortSt}{Q:Option Bool->SortSt->Prop}(hk:kindOf st=kd)(e:arr[base+i]?=some x)(k1:(κ.keyOf key.1).isSome=true)(k2:(κ.keyOf x.1).isSome=true)(h:Q (some (!κ.blt (kf κ key) (kf κ x))) st) :
  wpS (model prog w) A E s (tQ false key arr base i) Q st:=by
 unfold tQ
 refine wpS_bind (cY e ?_)
 rw [if_neg (by decide)]
 exact wpS_bind (C.lt st key x _ hk k1 k2 (wpS_pure h))
def kA (κ:KeyKind)(arr:Array Keyed)(i:Nat) : κ.α:=match arr[i]? with | some x=>kf κ x | none=>κ.dflt
theorem bI {arr:Array Keyed}{i:Nat}{x:Keyed}(e:arr[i]?=some x):kA κ arr i=kf κ x:=by unfold kA;rw [e]
theorem dP {α:Type}{arr:Array α}{i:Nat}(h:i<arr.size):∃ x,arr[i]?=some x/\x ∈ arr.toList:=⟨arr[i],getElem?_pos arr i h,by simp⟩
theorem lX {arr:Array Keyed}(h:dJ κ arr.toList){i j:Nat}(bL:i<=j)(hj:j<arr.size) : κ.kle (kA κ arr i) (kA κ arr j):=by
 have li:i<arr.toList.length:=by rw [Array.length_toList];omega
 have lj:j<arr.toList.length:=by rw [Array.length_toList];omega
 have ei:arr[i]?=some arr.toList[i]:=by rw [<- Array.getElem?_toList,List.getElem?_eq_getElem li]
 have ej:arr[j]?=some arr.toList[j]:=by rw [<- Array.getElem?_toList,List.getElem?_eq_getElem lj]
 rw [bI ei,bI ej]
 rcases Nat.lt_or_ge i j with z | z
 ·exact List.pairwise_iff_getElem.mp h i j li lj z
 ·have:i=j:=by omega
  subst this
  exact KeyOrd.kle_refl _
theorem mem_mid {arr:Array Keyed}{i k:Nat}{x:Keyed}(h:x ∈ (arr.toList.drop i).take k):∃ j,j<k/\arr[i+j]?=some x:=by
 obtain ⟨n,hn,e⟩:=List.getElem_of_mem h
 rw [List.length_take] at hn
 refine ⟨n,by omega,?_⟩
 rw [<- Array.getElem?_toList,<- List.getElem?_drop,<- e]
 rw [List.getElem_take,List.getElem?_eq_getElem]
theorem Ai (C:iM prog w A E s kd κ){key:Keyed}{arr:Array Keyed}{base n hint:Nat}{st:SortSt}{Q:Option Nat->SortSt->Prop}(hk:kindOf st=kd)(k1:(κ.keyOf key.1).isSome=true)(ka:Kd κ arr.toList)(hn:base+n<=arr.size)(hh:hint<n)(uz:∀ i j,i<=j->j<n->κ.kle (kA κ arr (base+i)) (kA κ arr (base+j)))(h:∀ k,k<=n->(∀ i,i<k->κ.kle (kA κ arr (base+i)) (kf κ key))->(∀ i,k<=i->i<n->κ.klt (kf κ key) (kA κ arr (base+i)))->Q (some k) st) :
  wpS (model prog w) A E s (DB false key arr base n hint) Q st:=by
 refine KS (fun i=>!κ.blt (kf κ key) (kA κ arr (base+i))) (fun i Q hi hq=>?_) (fun i j bL hj e=>?_) hh (fun k Er h1 h2=>h k Er (fun i hi=>?_) (fun i b1 b2=>?_))
 ·obtain ⟨x,ex,mx⟩:=dP (arr:=arr) (i:=base+i) (by omega)
  rw [bI ex] at hq
  exact byR C hk ex k1 (ka x mx) hq
 ·have e' : κ.blt (kf κ key) (kA κ arr (base+j))=false:=by simpa using e
  have : κ.kle (kA κ arr (base+i)) (kf κ key):=KeyOrd.kle_trans (uz i j bL hj) e'
  unfold KeyOrd.kle at this
  rw [this];rfl
 ·have:=h1 i hi
  show κ.blt _ _=false
  simpa using this
 ·have:=h2 i b1 b2
  show κ.blt _ _=true
  simpa using this
theorem AQ (C:iM prog w A E s kd κ){key:Keyed}{arr:Array Keyed}{base n hint:Nat}{st:SortSt}{Q:Option Nat->SortSt->Prop}(hk:kindOf st=kd)(k1:(κ.keyOf key.1).isSome=true)(ka:Kd κ arr.toList)(hn:base+n<=arr.size)(hh:hint<n)(uz:∀ i j,i<=j->j<n->κ.kle (kA κ arr (base+i)) (kA κ arr (base+j)))(h:∀ k,k<=n->(∀ i,i<k->κ.klt (kA κ arr (base+i)) (kf κ key))->(∀ i,k<=i->i<n->κ.kle (kf κ key) (kA κ arr (base+i)))->Q (some k) st) :
  wpS (model prog w) A E s (DB true key arr base n hint) Q st:=by
 refine KS (fun i=>κ.blt (kA κ arr (base+i)) (kf κ key)) (fun i Q hi hq=>?_) (fun i j bL hj e=>?_) hh (fun k Er h1 h2=>h k Er (fun i hi=>h1 i hi) (fun i b1 b2=>h2 i b1 b2))
 ·obtain ⟨x,ex,mx⟩:=dP (arr:=arr) (i:=base+i) (by omega)
  rw [bI ex] at hq
  exact byL C hk ex k1 (ka x mx) hq
 ·exact KeyOrd.klt_of_kle_of_klt (uz i j bL hj) e
end
section
variable {prog:Program}{w:World}{A:Around}{E:Value->Shared->Prop}{s:Shared}{kd:SortKind}{κ:KeyKind}
theorem Wt (C:iM prog w A E s kd κ){a b:Array Keyed}{st:SortSt}{Q:Array Keyed->SortSt->Prop}(hk:kindOf st=kd)(ka:Kd κ a.toList)(kb:Kd κ b.toList)(sa:dJ κ a.toList)(sb:dJ κ b.toList)(na : 0<a.size)(nb : 0<b.size)(h0:∀ x y,b[0]?=some x->a[0]?=some y->κ.kle (kf κ x) (kf κ y))(hl:∀ x ∈ b.toList,∀ y,a[a.size-1]?=some y->κ.kle (kf κ x) (kf κ y))(h:∀ (m:Array Keyed) g,Gd κ a.toList b.toList m.toList->Q m (dH st g)):wpS (model prog w) A E s (mLo a b) Q st:=by
 have la:a.toList.length=a.size:=Array.length_toList
 have lb:b.toList.length=b.size:=Array.length_toList
 have ga:∀ {i x},a[i]?=some x->a.toList[i]?=some x:=fun {i x} e=>by rw [Array.getElem?_toList];exact e
 have gb:∀ {i x},b[i]?=some x->b.toList[i]?=some x:=fun {i x} e=>by rw [Array.getElem?_toList];exact e
 have dl:∀ (out:Array Keyed) ia ib,(out++a.extract ia a.size++b.extract ib b.size).toList=out.toList++a.toList.drop ia++b.toList.drop ib:=fun out ia ib=>by
  rw [Array.toList_append,Array.toList_append,pJ,pJ]
 have ll:∀ (out:Array Keyed) ia ib,(out++b.extract ib b.size++a.extract ia a.size).toList=out.toList++b.toList.drop ib++a.toList.drop ia:=fun out ia ib=>by
  rw [Array.toList_append,Array.toList_append,pJ,pJ]
 have last:∀ {out:Array Keyed} {ia ib},MI κ a.toList b.toList out.toList ia ib->ia+1=a.size->Gd κ a.toList b.toList (out++b.extract ib b.size++a.extract ia a.size).toList:=fun {out ia ib} mi e=>by
  rw [ll]
  refine mi.Zu fun x hx y hy=>?_
  obtain ⟨z,ez,_⟩:=dP (arr:=a) (i:=ia) (by omega)
  rw [pI (ga ez),List.drop_eq_nil_of_le (by omega),List.mem_singleton] at hy
  rw [hy]
  exact hl x (List.mem_of_mem_drop hx) z (by rw [show a.size-1=ia by omega];exact ez)
 refine wpS_bind (wpS_lift (wpAny_rule ⟨rfl,?_⟩))
 (with_reducible conv=>arg 5;whnf)
 obtain ⟨x0,e0,m0⟩:=dP nb
 refine wpS_bind (cY e0 ?_)
 (with_reducible conv=>arg 5;whnf)
 obtain ⟨y0,f0,_⟩:=dP na
 have uA:MI κ a.toList b.toList [x0] 0 1:=by
  have:MI κ a.toList b.toList [] 0 0:=⟨List.Perm.refl _,sa,sb⟩
  refine this.qd (gb e0) fun z hz=>KeyOrd.kle_trans (h0 x0 y0 e0 f0) (m7 (i:=0) sa (ga f0) z hz)
 by_cases fe:(1==b.size)=true
 ·rw [if_pos fe]
  have:=(beq_iff_eq.mp fe).symm
  exact wpS_pure (h _ (gallopOf st) (by rw [dl];exact uA.wF (by omega)))
 rw [if_neg fe]
 have Z7 : 1 ≠ b.size:=fun z=>fe (beq_iff_eq.mpr z)
 by_cases lu:(0+1==a.size)=true
 ·rw [if_pos lu]
  have:=(beq_iff_eq.mp lu)
  exact wpS_pure (h _ (gallopOf st) (last uA this))
 rw [if_neg lu]
 have Z8 : 0+1 ≠ a.size:=fun z=>lu (beq_iff_eq.mpr z)
 refine wpS_bind (wpS_get ?_)
 (with_reducible conv=>arg 5;whnf)
 generalize gallopOf st=mg0
 refine wpS_bind (wpS_mono (wpS_forRange (I:=fun t c ag=>(∃ g,ag=dH st g)/\∃ out ia ib mg,c=(none,out,ia,ib,mg)/\MI κ a.toList b.toList out.toList ia ib/\ia+1<a.size/\ib<b.size/\t<=ia+ib)
  (Q:=fun c ag=>(∃ g,ag=dH st g)/\∃ m,c.1=some m/\Gd κ a.toList b.toList m.toList) ?_ ?_ ⟨⟨gallopOf st,rfl⟩,_,0,1,_,rfl,uA,by omega,by omega,by omega⟩) ?_)
 rotate_left
 ·rintro c ag ⟨_,out,ia,ib,mg,rfl,mi,h1,h2,h3⟩
  omega
 ·rintro c ag ⟨⟨g,rfl⟩,m,e,gd⟩
  dsimp only
  rw [e]
  exact wpS_pure (h m g gd)
 rintro t c ag _ ht ⟨⟨g,rfl⟩,out,ia,ib,mg,rfl,mi,h1,h2,h3⟩
 (with_reducible conv=>arg 5;whnf)
 (try dsimp -zeta only)
 refine wpS_bind (wpS_mono (wpS_forRange (I:=fun q c ag=>ag=dH st g/\∃ out ia ib ac bc,c=(none,out,ia,ib,ac,bc)/\MI κ a.toList b.toList out.toList ia ib/\ia+1<a.size/\ib<b.size/\t+q<=ia+ib)
  (Q:=fun c ag=>ag=dH st g/\((∃ m,c.1=some m/\Gd κ a.toList b.toList m.toList)\/∃ out ia ib ac bc,c=(none,out,ia,ib,ac,bc)/\MI κ a.toList b.toList out.toList ia ib/\ia+1<a.size/\ib<b.size/\t+1<=ia+ib)) ?_ ?_ ⟨rfl,out,ia,ib,0,0,rfl,mi,h1,h2,by omega⟩) ?_)
 rotate_left
 ·rintro c ag ⟨_,out,ia,ib,ac,bc,rfl,mi,h1,h2,h3⟩
  omega
 rotate_left
 ·clear mi h1 h2 h3
  rintro q c ag _ hq ⟨rfl,out,ia,ib,ac,bc,rfl,mi,h1,h2,h3⟩
  (with_reducible conv=>arg 5;whnf)
  (try dsimp -zeta only)
  obtain ⟨xb,eb,mb⟩:=dP h2
  obtain ⟨xa,ea,ma⟩:=dP (arr:=a) (i:=ia) (by omega)
  have sA:=(cP.mp mi.x).2.1
  have sB:=(cP.mp mi.y).2.1
  refine wpS_bind (cY eb (wpS_bind (cY ea (wpS_bind (C.lt _ xb xa _ hk (kb _ mb) (ka _ ma) ?_)))))
  (try dsimp -zeta only)
  cases aZ : κ.blt (kf κ xb) (kf κ xa) with
  |true =>
   rw [if_pos rfl]
   refine wpS_bind (cY eb ?_)
   (with_reducible conv=>arg 5;whnf)
   have bH:MI κ a.toList b.toList (out.push xb).toList ia (ib+1):=by
    rw [Array.toList_push]
    exact mi.qd (gb eb) fun z hz=>KeyOrd.kle_trans (KeyOrd.kle_of_klt aZ) (m7 sA (ga ea) z hz)
   by_cases hz:(ib+1==b.size)=true
   ·rw [if_pos hz]
    have:=beq_iff_eq.mp hz
    exact wpS_pure ⟨rfl,.inl ⟨_,rfl,by rw [dl];exact bH.wF (by omega)⟩⟩
   ·rw [if_neg hz]
    have dX:ib+1 ≠ b.size:=fun z=>hz (beq_iff_eq.mpr z)
    split
    ·exact wpS_pure ⟨rfl,.inr ⟨_,_,_,_,_,rfl,bH,h1,by omega,by omega⟩⟩
    ·exact wpS_pure ⟨rfl,_,_,_,_,_,rfl,bH,h1,by omega,by omega⟩
  |false =>
   rw [if_neg (by decide)]
   refine wpS_bind (cY ea ?_)
   (with_reducible conv=>arg 5;whnf)
   have bH:MI κ a.toList b.toList (out.push xa).toList (ia+1) ib:=by
    rw [Array.toList_push]
    exact mi.qc (ga ea) fun z hz=>KeyOrd.kle_trans aZ (m7 sB (gb eb) z hz)
   by_cases hz:(ia+1+1==a.size)=true
   ·rw [if_pos hz]
    exact wpS_pure ⟨rfl,.inl ⟨_,rfl,last bH (beq_iff_eq.mp hz)⟩⟩
   ·rw [if_neg hz]
    have dX:ia+1+1 ≠ a.size:=fun z=>hz (beq_iff_eq.mpr z)
    split
    ·exact wpS_pure ⟨rfl,.inr ⟨_,_,_,_,_,rfl,bH,by omega,h2,by omega⟩⟩
    ·exact wpS_pure ⟨rfl,_,_,_,_,_,rfl,bH,by omega,h2,by omega⟩
 clear mi h1 h2 h3
 rintro c ag ⟨rfl,⟨m,e,gd⟩ | ⟨out,ia,ib,ac,bc,rfl,mi,h1,h2,h3⟩⟩
 ·obtain ⟨c1,c2⟩:=c
  simp only at e
  subst e
  (with_reducible conv=>arg 5;whnf)
  (try dsimp -zeta only)
  exact wpS_pure ⟨⟨g,rfl⟩,m,rfl,gd⟩
 (with_reducible conv=>arg 5;whnf)
 (try dsimp -zeta only)
 refine wpS_bind (wpS_lift (wpAny_rule ⟨rfl,?_⟩))
 (with_reducible conv=>arg 5;whnf)
 refine wpS_bind (wpS_mono (wpS_forRange (I:=fun q c ag=>(∃ g,ag=dH st g)/\∃ out ia ib mg ac bc,c=(none,out,ia,ib,mg,ac,bc)/\MI κ a.toList b.toList out.toList ia ib/\ia+1<a.size/\ib<b.size/\t+1+q<=ia+ib)
  (Q:=fun c ag=>(∃ g,ag=dH st g)/\((∃ m,c.1=some m/\Gd κ a.toList b.toList m.toList)\/∃ out ia ib mg ac bc,c=(none,out,ia,ib,mg,ac,bc)/\MI κ a.toList b.toList out.toList ia ib/\ia+1<a.size/\ib<b.size/\t+1<=ia+ib)) ?_ ?_ ⟨⟨g,rfl⟩,out,ia,ib,_,ac,bc,rfl,mi,h1,h2,by omega⟩) ?_)
 rotate_left
 ·rintro c ag ⟨_,out,ia,ib,mg,ac,bc,rfl,mi,h1,h2,h3⟩
  omega
 ·rintro c ag ⟨⟨g,rfl⟩,⟨m,e,gd⟩ | ⟨out,ia,ib,mg,ac,bc,rfl,mi,h1,h2,h3⟩⟩
  ·obtain ⟨c1,c2⟩:=c
   simp only at e
   subst e
   (with_reducible conv=>arg 5;whnf)
   (try dsimp -zeta only)
   exact wpS_pure ⟨⟨g,rfl⟩,m,rfl,gd⟩
  ·(with_reducible conv=>arg 5;whnf)
   (try dsimp -zeta only)
   (with_reducible conv=>arg 5;whnf)
   exact wpS_bind (wpS_modify (wpS_pure ⟨⟨_,rfl⟩,out,ia,ib,_,rfl,mi,h1,h2,h3⟩))
 clear mi h1 h2 h3
 rintro q c ag _ hq ⟨⟨g,rfl⟩,out,ia,ib,mg,ac,bc,rfl,mi,h1,h2,h3⟩
 (extract_lets +onlyGivenNames -merge -underBinder Wu Wv Ww Wx Wy Wz WB WC WD WG Vl;subst Wu Wv Ww Wx Wy Wz WB WC WD WG Vl)
 (try dsimp -zeta only)
 extract_lets +onlyGivenNames -merge -underBinder L8
 obtain ⟨jp,eK⟩:∃ z,z=L8:=⟨L8,rfl⟩
 rw [<- eK]
 suffices J:∀ mg,wpS (model prog w) A E s (jp () mg) _ (dH st g) by
  (try dsimp -zeta only)
  split
  ·(with_reducible conv=>arg 5;whnf);exact J _
  ·exact J _
 intro mg
 rw [eK]
 (try dsimp -zeta only)
 refine wpS_bind (wpS_modify ?_)
 obtain ⟨xb,eb,mb⟩:=dP h2
 refine wpS_bind (cY eb ?_)
 refine wpS_bind (Ai C (key:=xb) hk (kb _ mb) ka (by omega) (by omega) (fun i j bL hj=>lX sa (by omega) (by omega)) fun k k1 k2 k3=>?_)
 (try dsimp -zeta only)
 (try dsimp -zeta only)
 (rw [show k=id k from rfl];extract_lets +onlyGivenNames -merge -underBinder Zv;subst Zv;(try dsimp -zeta only [id]))
 extract_lets +onlyGivenNames -merge -underBinder L9
 obtain ⟨uB,jr⟩:∃ z,z=L9:=⟨L9,rfl⟩
 rw [<- jr]
 have sB:=(cP.mp mi.y).2.1
 suffices J2:∀ (out:Array Keyed) (ia:Nat),MI κ a.toList b.toList out.toList ia ib->ia+1<a.size->t+1+q<=ia+ib->κ.klt (kf κ xb) (kA κ a ia)->wpS (model prog w) A E s (uB () out ia) _ (dH st mg) by
  by_cases jI:k > 0
  ·rw [if_pos jI]
   (with_reducible conv=>arg 5;whnf)
   have bH:MI κ a.toList b.toList (out++a.extract ia (ia+k)).toList (ia+k) ib:=by
    rw [Array.toList_append,KU]
    refine mi.sZ k fun x hx z hz=>?_
    obtain ⟨j,hj,ex⟩:=mem_mid hx
    have:=k2 j hj
    rw [bI ex] at this
    exact KeyOrd.kle_trans this (m7 sB (gb eb) z hz)
   by_cases hz:(ia+k+1==a.size)=true
   ·rw [if_pos hz]
    exact wpS_pure ⟨⟨_,rfl⟩,.inl ⟨_,rfl,last bH (beq_iff_eq.mp hz)⟩⟩
   ·rw [if_neg hz]
    have dX:ia+k+1 ≠ a.size:=fun z=>hz (beq_iff_eq.mpr z)
    by_cases hy:(ia+k==a.size)=true
    ·rw [if_pos hy]
     have:=beq_iff_eq.mp hy
     exact wpS_pure ⟨⟨_,rfl⟩,.inl ⟨_,rfl,by rw [dl];exact bH.Zt (by omega)⟩⟩
    ·rw [if_neg hy]
     have cW:ia+k ≠ a.size:=fun z=>hy (beq_iff_eq.mpr z)
     exact J2 _ _ bH (by omega) (by omega) (k3 k (Nat.le_refl _) (by omega))
  ·rw [if_neg jI]
   exact J2 _ _ mi h1 h3 (k3 0 (by omega) (by omega))
 clear mi h1 h3 k1 k2 k3 sB
 intro out ia mi h1 h3 aZ
 rw [jr]
 (try dsimp -zeta only)
 obtain ⟨xa,ea,ma⟩:=dP (arr:=a) (i:=ia) (by omega)
 rw [bI ea] at aZ
 have sA:=(cP.mp mi.x).2.1
 refine wpS_bind (cY eb ?_)
 (with_reducible conv=>arg 5;whnf)
 have bH:MI κ a.toList b.toList (out.push xb).toList ia (ib+1):=by
  rw [Array.toList_push]
  exact mi.qd (gb eb) fun z hz=>KeyOrd.kle_trans (KeyOrd.kle_of_klt aZ) (m7 sA (ga ea) z hz)
 by_cases hz:(ib+1==b.size)=true
 ·rw [if_pos hz]
  have:=beq_iff_eq.mp hz
  exact wpS_pure ⟨⟨_,rfl⟩,.inl ⟨_,rfl,by rw [dl];exact bH.wF (by omega)⟩⟩
 rw [if_neg hz]
 have dX:ib+1 ≠ b.size:=fun z=>hz (beq_iff_eq.mpr z)
 refine wpS_bind (cY ea ?_)
 refine wpS_bind (AQ C (key:=xa) hk (ka _ ma) kb (by omega) (by omega) (fun i j bL hj=>lX sb (by omega) (by omega)) fun k k1 k2 k3=>?_)
 (try dsimp -zeta only)
 (try dsimp -zeta only)
 (rw [show k=id k from rfl];extract_lets +onlyGivenNames -merge -underBinder Zw;subst Zw;(try dsimp -zeta only [id]))
 extract_lets +onlyGivenNames -merge -underBinder Ma
 obtain ⟨Es,tR⟩:∃ z,z=Ma:=⟨Ma,rfl⟩
 rw [<- tR]
 suffices J3:∀ (out:Array Keyed) (ib:Nat),MI κ a.toList b.toList out.toList ia ib->ib<b.size->t+1+q<=ia+ib->κ.kle (kf κ xa) (kA κ b ib)->wpS (model prog w) A E s (Es () out ib) _ (dH st mg) by
  by_cases jI:k > 0
  ·rw [if_pos jI]
   (with_reducible conv=>arg 5;whnf)
   have qT:MI κ a.toList b.toList (out.push xb++b.extract (ib+1) (ib+1+k)).toList ia (ib+1+k):=by
    rw [Array.toList_append,KU]
    refine bH.tf k fun x hx z hz=>?_
    obtain ⟨j,hj,ex⟩:=mem_mid hx
    have:=k2 j hj
    rw [bI ex] at this
    exact KeyOrd.kle_trans (KeyOrd.kle_of_klt this) (m7 sA (ga ea) z hz)
   by_cases hy:(ib+1+k==b.size)=true
   ·rw [if_pos hy]
    have:=beq_iff_eq.mp hy
    exact wpS_pure ⟨⟨_,rfl⟩,.inl ⟨_,rfl,by rw [dl];exact qT.wF (by omega)⟩⟩
   ·rw [if_neg hy]
    have cW:ib+1+k ≠ b.size:=fun z=>hy (beq_iff_eq.mpr z)
    exact J3 _ _ qT (by omega) (by omega) (k3 k (Nat.le_refl _) (by omega))
  ·rw [if_neg jI]
   exact J3 _ _ bH (by omega) (by omega) (k3 0 (by omega) (by omega))
 clear mi bH h2 h3 k1 k2 k3 sA hz dX eb
 intro out ib mi h2 h3 hle
 rw [tR]
 (try dsimp -zeta only)
 obtain ⟨xc,ec,mc⟩:=dP h2
 rw [bI ec] at hle
 have sB:=(cP.mp mi.y).2.1
 refine wpS_bind (cY ea ?_)
 (with_reducible conv=>arg 5;whnf)
 have bH:MI κ a.toList b.toList (out.push xa).toList (ia+1) ib:=by
  rw [Array.toList_push]
  exact mi.qc (ga ea) fun z hz=>KeyOrd.kle_trans hle (m7 sB (gb ec) z hz)
 by_cases hz:(ia+1+1==a.size)=true
 ·rw [if_pos hz]
  exact wpS_pure ⟨⟨_,rfl⟩,.inl ⟨_,rfl,last bH (beq_iff_eq.mp hz)⟩⟩
 ·rw [if_neg hz]
  have dX:ia+1+1 ≠ a.size:=fun z=>hz (beq_iff_eq.mpr z)
  split
  ·exact wpS_pure ⟨⟨_,rfl⟩,.inr ⟨_,_,_,_,_,_,rfl,bH,by omega,h2,by omega⟩⟩
  ·exact wpS_pure ⟨⟨_,rfl⟩,_,_,_,_,_,_,rfl,bH,by omega,h2,by omega⟩
end
structure MH (κ:KeyKind) (a b r:List Keyed) (na nb:Nat):Prop where
 p:((a.take na++b.take nb)++r).Perm (a++b)
 x:dJ κ (a.take na++r)
 y:dJ κ (b.take nb++r)
section
variable {κ:KeyKind}{a b r:List Keyed}{na nb:Nat}
theorem MH.sZ (h:MH κ a b r na nb)(t:Nat)(ht:t<=na)(hl:∀ x ∈ b.take nb,∀ y ∈ (a.take na).drop t,κ.kle (kf κ x) (kf κ y)):MH κ a b ((a.take na).drop t++r) t nb:=by
 have e:a.take t++(a.take na).drop t=a.take na:=by
  have:=List.take_append_drop t (a.take na)
  rwa [List.take_take,Nat.min_eq_left ht] at this
 have hx:=h.x
 have hp:=h.p
 have hy:=cP.mp h.y
 generalize (a.take na).drop t=A2 at e hl
 rw [<- e] at hx hp
 rw [List.append_assoc] at hx
 have Eu:=cP.mp hx
 refine ⟨List.Perm.trans ?_ hp,hx,cP.mpr ⟨hy.1,Eu.2.1,fun x fU y cW=>?_⟩⟩
 ·generalize a.take t=A1
  generalize b.take nb=B
  rw [List.append_assoc,List.append_assoc A1 A2 B,List.append_assoc A1 (A2++B) r]
  refine List.Perm.append_left _ ?_
  rw [<- List.append_assoc]
  exact List.Perm.append_right _ List.perm_append_comm
 ·rcases List.mem_append.mp cW with z | z
  ·exact hl x fU y z
  ·exact hy.2.2 x fU y z
theorem MH.tf (h:MH κ a b r na nb)(t:Nat)(ht:t<=nb)(hl:∀ x ∈ a.take na,∀ y ∈ (b.take nb).drop t,κ.kle (kf κ x) (kf κ y)):MH κ a b ((b.take nb).drop t++r) na t:=by
 have e:b.take t++(b.take nb).drop t=b.take nb:=by
  have:=List.take_append_drop t (b.take nb)
  rwa [List.take_take,Nat.min_eq_left ht] at this
 have hy:=h.y
 have hp:=h.p
 have hx:=cP.mp h.x
 generalize (b.take nb).drop t=B2 at e hl
 rw [<- e] at hy hp
 rw [List.append_assoc] at hy
 have hy2:=cP.mp hy
 refine ⟨?_,cP.mpr ⟨hx.1,hy2.2.1,fun x fU y cW=>?_⟩,hy⟩
 ·rw [<- List.append_assoc,List.append_assoc (a.take na)]
  exact hp
 ·rcases List.mem_append.mp cW with z | z
  ·exact hl x fU y z
  ·exact hx.2.2 x fU y z
theorem vi {l:List Keyed}{n:Nat}{x:Keyed}(e:l[n]?=some x):(l.take (n+1)).drop n=[x]:=by
 obtain ⟨h1,rfl⟩:=List.getElem?_eq_some_iff.mp e
 rw [List.take_succ_eq_append_getElem h1,List.drop_append_of_le_length (by rw [List.length_take];omega),List.drop_eq_nil_of_le (by rw [List.length_take];omega),List.nil_append]
theorem MH.qc {y:Keyed}(h:MH κ a b r (na+1) nb)(e:a[na]?=some y)(hl:∀ z ∈ b.take nb,κ.kle (kf κ z) (kf κ y)):MH κ a b (y::r) na nb:=by
 have:=h.sZ na (Nat.le_succ _) (by rw [vi e];intro x hx z hz;rw [List.mem_singleton.mp hz];exact hl x hx)
 rwa [vi e] at this
theorem MH.qd {y:Keyed}(h:MH κ a b r na (nb+1))(e:b[nb]?=some y)(hl:∀ z ∈ a.take na,κ.kle (kf κ z) (kf κ y)):MH κ a b (y::r) na nb:=by
 have:=h.tf nb (Nat.le_succ _) (by rw [vi e];intro x hx z hz;rw [List.mem_singleton.mp hz];exact hl x hx)
 rwa [vi e] at this
theorem MH.done (h:MH κ a b r na nb)(hz:na=0\/nb=0):Gd κ a b (a.take na++b.take nb++r):=by
 refine ⟨h.p,?_⟩
 rcases hz with rfl | rfl
 ·rw [List.take_zero,List.nil_append];exact h.y
 ·rw [List.take_zero,List.append_nil];exact h.x
theorem MH.first (h:MH κ a b r na nb)(hl:∀ x ∈ b.take nb,∀ y ∈ a.take na,κ.kle (kf κ x) (kf κ y)):Gd κ a b (b.take nb++a.take na++r):=by
 refine ⟨(List.Perm.append_right _ List.perm_append_comm).trans h.p,?_⟩
 have hy:=cP.mp h.y
 rw [List.append_assoc]
 refine cP.mpr ⟨hy.1,h.x,fun x hx y cW=>?_⟩
 rcases List.mem_append.mp cW with z | z
 ·exact hl x hx y z
 ·exact hy.2.2 x hx y z
theorem ny {arr:Array Keyed}{n:Nat}{x:Keyed}(h:x ∈ arr.toList.take n):∃ j,j<n/\arr[j]?=some x:=by
 obtain ⟨m,hm,e⟩:=List.getElem_of_mem h
 rw [List.length_take] at hm
 refine ⟨m,by omega,?_⟩
 rw [<- Array.getElem?_toList,<- e,List.getElem_take,List.getElem?_eq_getElem]
theorem BZ {arr:Array Keyed}{t n:Nat}{x:Keyed}(h:x ∈ (arr.toList.take n).drop t):∃ j,t<=j/\j<n/\arr[j]?=some x:=by
 obtain ⟨m,hm,e⟩:=List.getElem_of_mem h
 rw [List.length_drop,List.length_take] at hm
 refine ⟨t+m,by omega,by omega,?_⟩
 rw [<- Array.getElem?_toList,<- e,List.getElem_drop,List.getElem_take,List.getElem?_eq_getElem]
theorem sN {α:Type}(a:Array α)(n:Nat):(a.extract 0 n).toList=a.toList.take n:=by
 rw [Array.toList_extract,List.extract_eq_take_drop,List.drop_zero,Nat.sub_zero]
theorem pU {α:Type}(a:Array α)(t n:Nat):(a.extract t n).toList=(a.toList.take n).drop t:=by
 rw [Array.toList_extract,List.extract_eq_take_drop,List.drop_take]
end
section
variable {prog:Program}{w:World}{A:Around}{E:Value->Shared->Prop}{s:Shared}{kd:SortKind}{κ:KeyKind}
theorem WH (C:iM prog w A E s kd κ){a b:Array Keyed}{st:SortSt}{Q:Array Keyed->SortSt->Prop}(hk:kindOf st=kd)(ka:Kd κ a.toList)(kb:Kd κ b.toList)(sa:dJ κ a.toList)(sb:dJ κ b.toList)(na0 : 0<a.size)(nb0 : 0<b.size)(h0:∀ x y,b[0]?=some x->a[0]?=some y->κ.kle (kf κ x) (kf κ y))(hl:∀ x ∈ b.toList,∀ y,a[a.size-1]?=some y->κ.kle (kf κ x) (kf κ y))(h:∀ (m:Array Keyed) g,Gd κ a.toList b.toList m.toList->Q m (dH st g)):wpS (model prog w) A E s (mHi a b) Q st:=by
 have la:a.toList.length=a.size:=Array.length_toList
 have lb:b.toList.length=b.size:=Array.length_toList
 have ga:∀ {i x},a[i]?=some x->a.toList[i]?=some x:=fun {i x} e=>by rw [Array.getElem?_toList];exact e
 have gb:∀ {i x},b[i]?=some x->b.toList[i]?=some x:=fun {i x} e=>by rw [Array.getElem?_toList];exact e
 have Oc:∀ {n j:Nat} {x y:Keyed},x ∈ a.toList.take n->a[j]?=some y->n<=j+1->κ.kle (kf κ x) (kf κ y):=fun {n j x y} hx ey hn=>by
  obtain ⟨i,hi,ex⟩:=ny hx
  have:=lX (arr:=a) (κ:=κ) sa (i:=i) (j:=j) (by omega) (Array.getElem?_eq_some_iff.mp ey).1
  rwa [bI ex,bI ey] at this
 have Od:∀ {n j:Nat} {x y:Keyed},x ∈ b.toList.take n->b[j]?=some y->n<=j+1->κ.kle (kf κ x) (kf κ y):=fun {n j x y} hx ey hn=>by
  obtain ⟨i,hi,ex⟩:=ny hx
  have:=lX (arr:=b) (κ:=κ) sb (i:=i) (j:=j) (by omega) (Array.getElem?_eq_some_iff.mp ey).1
  rwa [bI ex,bI ey] at this
 have dl:∀ (out:Array Keyed) na nb,(a.extract 0 na++b.extract 0 nb++out.reverse).toList=a.toList.take na++b.toList.take nb++out.toList.reverse:=fun out na nb=>by
  rw [Array.toList_append,Array.toList_append,sN,sN,Array.toList_reverse]
 have first:∀ {out:Array Keyed} {na nb},MH κ a.toList b.toList out.toList.reverse na nb->nb=1->Gd κ a.toList b.toList (b.extract 0 nb++a.extract 0 na++out.reverse).toList:=fun {out na nb} mi e=>by
  rw [Array.toList_append,Array.toList_append,sN,sN,Array.toList_reverse]
  refine mi.first fun x hx y hy=>?_
  obtain ⟨i,hi,ex⟩:=ny hx
  have hi0:i=0:=by omega
  subst hi0
  obtain ⟨j,hj,ey⟩:=ny hy
  obtain ⟨y0,f0,_⟩:=dP na0
  have:=lX (arr:=a) (κ:=κ) sa (i:=0) (j:=j) (by omega) (Array.getElem?_eq_some_iff.mp ey).1
  rw [bI f0,bI ey] at this
  exact KeyOrd.kle_trans (h0 x y0 ex f0) this
 refine wpS_bind (wpS_lift (wpAny_rule ⟨rfl,?_⟩))
 (with_reducible conv=>arg 5;whnf)
 obtain ⟨x0,e0,m0⟩:=dP (arr:=a) (i:=a.size-1) (by omega)
 refine wpS_bind (cY e0 ?_)
 (with_reducible conv=>arg 5;whnf)
 have uA:MH κ a.toList b.toList [x0] (a.size-1) b.size:=by
  have:MH κ a.toList b.toList [] (a.size-1+1) b.size:=by
   refine ⟨?_,?_,?_⟩
   ·rw [List.append_nil,List.take_of_length_le (by omega),List.take_of_length_le (by omega)]
   ·rw [List.append_nil,List.take_of_length_le (by omega)];exact sa
   ·rw [List.append_nil,List.take_of_length_le (by omega)];exact sb
  exact this.qc (ga e0) fun z hz=>hl z (List.mem_of_mem_take hz) x0 e0
 have DC:MH κ a.toList b.toList (#[x0]:Array Keyed).toList.reverse (a.size-1) b.size:=uA
 by_cases fe:(a.size-1==0)=true
 ·rw [if_pos fe]
  have:=beq_iff_eq.mp fe
  exact wpS_pure (h _ (gallopOf st) (by rw [dl];exact DC.done (.inl this)))
 rw [if_neg fe]
 have Z7:a.size-1 ≠ 0:=fun z=>fe (beq_iff_eq.mpr z)
 by_cases lu:(b.size==1)=true
 ·rw [if_pos lu]
  exact wpS_pure (h _ (gallopOf st) (first DC (beq_iff_eq.mp lu)))
 rw [if_neg lu]
 have Z8:b.size ≠ 1:=fun z=>lu (beq_iff_eq.mpr z)
 refine wpS_bind (wpS_get ?_)
 (with_reducible conv=>arg 5;whnf)
 generalize gallopOf st=mg0
 refine wpS_bind (wpS_mono (wpS_forRange (I:=fun t c ag=>(∃ g,ag=dH st g)/\∃ out na nb mg,c=(none,na,nb,out,mg)/\MH κ a.toList b.toList out.toList.reverse na nb/\0<na/\1<nb/\na<=a.size/\nb<=b.size/\na+nb+t<=a.size+b.size)
  (Q:=fun c ag=>(∃ g,ag=dH st g)/\∃ m,c.1=some m/\Gd κ a.toList b.toList m.toList) ?_ ?_ ⟨⟨gallopOf st,rfl⟩,_,_,_,_,rfl,DC,by omega,by omega,by omega,by omega,by omega⟩) ?_)
 rotate_left
 ·rintro c ag ⟨_,out,na,nb,mg,rfl,mi,h1,h2,h3,h4,h5⟩
  omega
 ·rintro c ag ⟨⟨g,rfl⟩,m,e,gd⟩
  dsimp only
  rw [e]
  exact wpS_pure (h m g gd)
 rintro t c ag _ ht ⟨⟨g,rfl⟩,out,na,nb,mg,rfl,mi,h1,h2,h3,h4,h5⟩
 (with_reducible conv=>arg 5;whnf)
 (try dsimp -zeta only)
 refine wpS_bind (wpS_mono (wpS_forRange (I:=fun q c ag=>ag=dH st g/\∃ out na nb ac bc,c=(none,na,nb,out,ac,bc)/\MH κ a.toList b.toList out.toList.reverse na nb/\0<na/\1<nb/\na<=a.size/\nb<=b.size/\na+nb+t+q<=a.size+b.size)
  (Q:=fun c ag=>ag=dH st g/\((∃ m,c.1=some m/\Gd κ a.toList b.toList m.toList)\/∃ out na nb ac bc,c=(none,na,nb,out,ac,bc)/\MH κ a.toList b.toList out.toList.reverse na nb/\0<na/\1<nb/\na<=a.size/\nb<=b.size/\na+nb+t+1<=a.size+b.size)) ?_ ?_ ⟨rfl,out,na,nb,0,0,rfl,mi,h1,h2,h3,h4,by omega⟩) ?_)
 rotate_left
 ·rintro c ag ⟨_,out,na,nb,ac,bc,rfl,mi,h1,h2,h3,h4,h5⟩
  omega
 rotate_left
 ·clear mi h1 h2 h3 h4 h5
  rintro q c ag _ hq ⟨rfl,out,na,nb,ac,bc,rfl,mi,h1,h2,h3,h4,h5⟩
  (with_reducible conv=>arg 5;whnf)
  (try dsimp -zeta only)
  obtain ⟨na,rfl⟩:∃ n,na=n+1:=⟨na-1,by omega⟩
  obtain ⟨nb,rfl⟩:∃ n,nb=n+1:=⟨nb-1,by omega⟩
  obtain ⟨xb,eb,mb⟩:=dP (arr:=b) (i:=nb) (by omega)
  obtain ⟨xa,ea,ma⟩:=dP (arr:=a) (i:=na) (by omega)
  simp only [Nat.add_sub_cancel]
  refine wpS_bind (cY eb (wpS_bind (cY ea (wpS_bind (C.lt _ xb xa _ hk (kb _ mb) (ka _ ma) ?_)))))
  (try dsimp -zeta only)
  cases aZ : κ.blt (kf κ xb) (kf κ xa) with
  |true =>
   rw [if_pos rfl]
   (try dsimp -zeta only)
   refine wpS_bind (cY ea ?_)
   (try dsimp -zeta only)
   have bH:MH κ a.toList b.toList (out.push xa).toList.reverse na (nb+1):=by
    rw [Array.toList_push,List.reverse_append]
    exact mi.qc (ga ea) fun z hz=>KeyOrd.kle_trans (Od hz eb (Nat.le_refl _)) (KeyOrd.kle_of_klt aZ)
   by_cases hz:(na==0)=true
   ·rw [if_pos hz]
    exact wpS_pure ⟨rfl,.inl ⟨_,rfl,by rw [dl];exact bH.done (.inl (beq_iff_eq.mp hz))⟩⟩
   ·rw [if_neg hz]
    have dX:na ≠ 0:=fun z=>hz (beq_iff_eq.mpr z)
    split
    ·exact wpS_pure ⟨rfl,.inr ⟨_,_,_,_,_,rfl,bH,by omega,by omega,by omega,by omega,by omega⟩⟩
    ·exact wpS_pure ⟨rfl,_,_,_,_,_,rfl,bH,by omega,by omega,by omega,by omega,by omega⟩
  |false =>
   rw [if_neg (by decide)]
   (try dsimp -zeta only)
   refine wpS_bind (cY eb ?_)
   (try dsimp -zeta only)
   have bH:MH κ a.toList b.toList (out.push xb).toList.reverse (na+1) nb:=by
    rw [Array.toList_push,List.reverse_append]
    exact mi.qd (gb eb) fun z hz=>KeyOrd.kle_trans (Oc hz ea (Nat.le_refl _)) aZ
   by_cases hz:(nb==1)=true
   ·rw [if_pos hz]
    exact wpS_pure ⟨rfl,.inl ⟨_,rfl,first bH (beq_iff_eq.mp hz)⟩⟩
   ·rw [if_neg hz]
    have dX:nb ≠ 1:=fun z=>hz (beq_iff_eq.mpr z)
    split
    ·exact wpS_pure ⟨rfl,.inr ⟨_,_,_,_,_,rfl,bH,by omega,by omega,by omega,by omega,by omega⟩⟩
    ·exact wpS_pure ⟨rfl,_,_,_,_,_,rfl,bH,by omega,by omega,by omega,by omega,by omega⟩
 clear mi h1 h2 h3 h4 h5
 rintro c ag ⟨rfl,⟨m,e,gd⟩ | ⟨out,na,nb,ac,bc,rfl,mi,h1,h2,h3,h4,h5⟩⟩
 ·obtain ⟨c1,c2⟩:=c
  simp only at e
  subst e
  (with_reducible conv=>arg 5;whnf)
  (try dsimp -zeta only)
  exact wpS_pure ⟨⟨g,rfl⟩,m,rfl,gd⟩
 (with_reducible conv=>arg 5;whnf)
 (try dsimp -zeta only)
 refine wpS_bind (wpS_lift (wpAny_rule ⟨rfl,?_⟩))
 (with_reducible conv=>arg 5;whnf)
 refine wpS_bind (wpS_mono (wpS_forRange (I:=fun q c ag=>(∃ g,ag=dH st g)/\∃ out na nb mg ac bc,c=(none,na,nb,out,mg,ac,bc)/\MH κ a.toList b.toList out.toList.reverse na nb/\0<na/\1<nb/\na<=a.size/\nb<=b.size/\na+nb+t+1+q<=a.size+b.size)
  (Q:=fun c ag=>(∃ g,ag=dH st g)/\((∃ m,c.1=some m/\Gd κ a.toList b.toList m.toList)\/∃ out na nb mg ac bc,c=(none,na,nb,out,mg,ac,bc)/\MH κ a.toList b.toList out.toList.reverse na nb/\0<na/\1<nb/\na<=a.size/\nb<=b.size/\na+nb+t+1<=a.size+b.size)) ?_ ?_ ⟨⟨g,rfl⟩,out,na,nb,_,ac,bc,rfl,mi,h1,h2,h3,h4,by omega⟩) ?_)
 rotate_left
 ·rintro c ag ⟨_,out,na,nb,mg,ac,bc,rfl,mi,h1,h2,h3,h4,h5⟩
  omega
 ·rintro c ag ⟨⟨g,rfl⟩,⟨m,e,gd⟩ | ⟨out,na,nb,mg,ac,bc,rfl,mi,h1,h2,h3,h4,h5⟩⟩
  ·obtain ⟨c1,c2⟩:=c
   simp only at e
   subst e
   (with_reducible conv=>arg 5;whnf)
   (try dsimp -zeta only)
   exact wpS_pure ⟨⟨g,rfl⟩,m,rfl,gd⟩
  ·(with_reducible conv=>arg 5;whnf)
   (try dsimp -zeta only)
   (with_reducible conv=>arg 5;whnf)
   exact wpS_bind (wpS_modify (wpS_pure ⟨⟨_,rfl⟩,out,na,nb,_,rfl,mi,h1,h2,h3,h4,h5⟩))
 clear mi h1 h2 h3 h4 h5
 rintro q c ag _ hq ⟨⟨g,rfl⟩,out,na,nb,mg,ac,bc,rfl,mi,h1,h2,h3,h4,h5⟩
 (extract_lets +onlyGivenNames -merge -underBinder WK WL WN WO WQ WR WT WU WV WW Vm;subst WK WL WN WO WQ WR WT WU WV WW Vm)
 (try dsimp -zeta only)
 extract_lets +onlyGivenNames -merge -underBinder Mb
 obtain ⟨jp,eK⟩:∃ z,z=Mb:=⟨Mb,rfl⟩
 rw [<- eK]
 suffices J:∀ mg,wpS (model prog w) A E s (jp () mg) _ (dH st g) by
  (try dsimp -zeta only)
  split
  ·(with_reducible conv=>arg 5;whnf);exact J _
  ·exact J _
 intro mg
 rw [eK]
 (try dsimp -zeta only)
 refine wpS_bind (wpS_modify ?_)
 obtain ⟨xb,eb,mb⟩:=dP (arr:=b) (i:=nb-1) (by omega)
 refine wpS_bind (cY eb ?_)
 refine wpS_bind (Ai C (key:=xb) hk (kb _ mb) ka (by omega) (by omega) (fun i j bL hj=>lX sa (by omega) (by omega)) fun k k1 k2 k3=>?_)
 simp only [Nat.zero_add] at k2 k3
 (try dsimp -zeta only)
 (try dsimp -zeta only)
 (extract_lets +onlyGivenNames -merge -underBinder WX WY;subst WX WY)
 extract_lets +onlyGivenNames -merge -underBinder Mf
 obtain ⟨uB,jr⟩:∃ z,z=Mf:=⟨Mf,rfl⟩
 rw [<- jr]
 suffices J2:∀ (na:Nat) (out:Array Keyed),MH κ a.toList b.toList out.toList.reverse na nb->0<na->na<=a.size->na+nb+t+1+q<=a.size+b.size->(∀ i,i<na->κ.kle (kA κ a i) (kf κ xb))->wpS (model prog w) A E s (uB () na out) _ (dH st mg) by
  by_cases jI:na-k > 0
  ·rw [if_pos jI]
   (with_reducible conv=>arg 5;whnf)
   have bH:MH κ a.toList b.toList (out++(a.extract k na).reverse).toList.reverse k nb:=by
    rw [Array.toList_append,Array.toList_reverse,List.reverse_append,List.reverse_reverse,pU]
    refine mi.sZ k (by omega) fun x hx y hy=>?_
    obtain ⟨j,mQ,lz,ey⟩:=BZ hy
    have:=k3 j mQ lz
    rw [bI ey] at this
    exact KeyOrd.kle_trans (Od hx eb (by omega)) (KeyOrd.kle_of_klt this)
   by_cases hz:(k==0)=true
   ·rw [if_pos hz]
    exact wpS_pure ⟨⟨_,rfl⟩,.inl ⟨_,rfl,by rw [dl];exact bH.done (.inl (beq_iff_eq.mp hz))⟩⟩
   ·rw [if_neg hz]
    have dX:k ≠ 0:=fun z=>hz (beq_iff_eq.mpr z)
    exact J2 _ _ bH (by omega) (by omega) (by omega) k2
  ·rw [if_neg jI]
   have:k=na:=by omega
   subst this
   exact J2 _ _ mi h1 h3 (by omega) k2
 clear mi h1 h3 h5 k1 k2 k3
 intro na out mi h1 h3 h5 hle
 rw [jr]
 (with_reducible conv=>arg 5;whnf)
 obtain ⟨nb,rfl⟩:∃ n,nb=n+1:=⟨nb-1,by omega⟩
 simp -zeta only [Nat.add_sub_cancel] at eb ⊢
 refine wpS_bind (cY eb ?_)
 (with_reducible conv=>arg 5;whnf)
 have bH:MH κ a.toList b.toList (out.push xb).toList.reverse na nb:=by
  rw [Array.toList_push,List.reverse_append]
  refine mi.qd (gb eb) fun z hz=>?_
  obtain ⟨i,hi,ez⟩:=ny hz
  have:=hle i hi
  rwa [bI ez] at this
 by_cases hz:(nb==1)=true
 ·rw [if_pos hz]
  exact wpS_pure ⟨⟨_,rfl⟩,.inl ⟨_,rfl,first bH (beq_iff_eq.mp hz)⟩⟩
 rw [if_neg hz]
 have dX:nb ≠ 1:=fun z=>hz (beq_iff_eq.mpr z)
 obtain ⟨xa,ea,ma⟩:=dP (arr:=a) (i:=na-1) (by omega)
 refine wpS_bind (cY ea ?_)
 refine wpS_bind (AQ C (key:=xa) hk (ka _ ma) kb (by omega) (by omega) (fun i j bL hj=>lX sb (by omega) (by omega)) fun k k1 k2 k3=>?_)
 simp only [Nat.zero_add] at k2 k3
 (try dsimp -zeta only)
 (try dsimp -zeta only)
 (extract_lets +onlyGivenNames -merge -underBinder WZ W0;subst WZ W0)
 extract_lets +onlyGivenNames -merge -underBinder Mg
 obtain ⟨Es,tR⟩:∃ z,z=Mg:=⟨Mg,rfl⟩
 rw [<- tR]
 suffices J3:∀ (nb:Nat) (out:Array Keyed),MH κ a.toList b.toList out.toList.reverse na nb->1<nb->nb<=b.size->na+nb+t+1+q+1<=a.size+b.size->(∀ i,i<nb->κ.kle (kA κ b i) (kf κ xa))->wpS (model prog w) A E s (Es () nb out) _ (dH st mg) by
  by_cases jI:nb-k > 0
  ·rw [if_pos jI]
   (with_reducible conv=>arg 5;whnf)
   have qT:MH κ a.toList b.toList (out.push xb++(b.extract k nb).reverse).toList.reverse na k:=by
    rw [Array.toList_append,Array.toList_reverse,List.reverse_append,List.reverse_reverse,pU]
    refine bH.tf k (by omega) fun x hx y hy=>?_
    obtain ⟨j,mQ,lz,ey⟩:=BZ hy
    have:=k3 j mQ lz
    rw [bI ey] at this
    exact KeyOrd.kle_trans (Oc hx ea (by omega)) this
   by_cases hy:(k==1)=true
   ·rw [if_pos hy]
    exact wpS_pure ⟨⟨_,rfl⟩,.inl ⟨_,rfl,first qT (beq_iff_eq.mp hy)⟩⟩
   ·rw [if_neg hy]
    have cW:k ≠ 1:=fun z=>hy (beq_iff_eq.mpr z)
    by_cases hx:(k==0)=true
    ·rw [if_pos hx]
     exact wpS_pure ⟨⟨_,rfl⟩,.inl ⟨_,rfl,by rw [dl];exact qT.done (.inr (beq_iff_eq.mp hx))⟩⟩
    ·rw [if_neg hx]
     have fU:k ≠ 0:=fun z=>hx (beq_iff_eq.mpr z)
     exact J3 _ _ qT (by omega) (by omega) (by omega) fun i hi=>KeyOrd.kle_of_klt (k2 i hi)
  ·rw [if_neg jI]
   have:k=nb:=by omega
   subst this
   exact J3 _ _ bH (by omega) (by omega) (by omega) fun i hi=>KeyOrd.kle_of_klt (k2 i hi)
 clear mi bH h2 h4 h5 k1 k2 k3 hz dX eb
 intro nb out mi h2 h4 h5 Z9
 rw [tR]
 (with_reducible conv=>arg 5;whnf)
 obtain ⟨na,rfl⟩:∃ n,na=n+1:=⟨na-1,by omega⟩
 simp only [Nat.add_sub_cancel] at ea ⊢
 refine wpS_bind (cY ea ?_)
 (try dsimp -zeta only)
 have bH:MH κ a.toList b.toList (out.push xa).toList.reverse na nb:=by
  rw [Array.toList_push,List.reverse_append]
  refine mi.qc (ga ea) fun z hz=>?_
  obtain ⟨i,hi,ez⟩:=ny hz
  have:=Z9 i hi
  rwa [bI ez] at this
 by_cases hz:(na==0)=true
 ·rw [if_pos hz]
  exact wpS_pure ⟨⟨_,rfl⟩,.inl ⟨_,rfl,by rw [dl];exact bH.done (.inl (beq_iff_eq.mp hz))⟩⟩
 ·rw [if_neg hz]
  have dX:na ≠ 0:=fun z=>hz (beq_iff_eq.mpr z)
  split
  ·exact wpS_pure ⟨⟨_,rfl⟩,.inr ⟨_,_,_,_,_,_,rfl,bH,by omega,h2,by omega,h4,by omega⟩⟩
  ·exact wpS_pure ⟨⟨_,rfl⟩,_,_,_,_,_,_,rfl,bH,by omega,h2,by omega,h4,by omega⟩
end
structure SB (kd:SortKind) (a0:Array Keyed) (p:Array (Nat×Nat×Nat)) (lo:Nat) (x0:Array Keyed) (st:SortSt):Prop where
 perm:(arrOf st).Perm a0
 kind:kindOf st=kd
 fail:failedOf st=none
 pend:pendingOf st=p
 low:∀ i,i<lo->(arrOf st)[i]?=x0[i]?
def SS (κ:KeyKind)(xs:Array Keyed)(lo n:Nat):Prop:=∀ i j,i<=j->j<n->κ.kle (kA κ xs (lo+i)) (kA κ xs (lo+j))
def DS (κ:KeyKind)(xs:Array Keyed)(lo n:Nat):Prop:=∀ i j,i<=j->j<n->κ.kle (kA κ xs (lo+j)) (kA κ xs (lo+i))
section
variable {κ:KeyKind}{kd:SortKind}{a0 x0:Array Keyed}{p:Array (Nat×Nat×Nat)}{lo:Nat}{st:SortSt}
theorem SB.size (h:SB kd a0 p lo x0 st):(arrOf st).size=a0.size:=h.perm.size_eq
theorem SB.set (h:SB kd a0 p lo x0 st){xs:Array Keyed}(hp:xs.Perm (arrOf st))(hl:∀ i,i<lo->xs[i]?=(arrOf st)[i]?):SB kd a0 p lo x0 (setArr st xs) :=
 ⟨hp.trans h.perm,h.kind,h.fail,h.pend,fun i hi=>(hl i hi).trans (h.low i hi)⟩
theorem SB.keys (h:SB kd a0 p lo x0 st)(k:Kd κ a0.toList):Kd κ (arrOf st).toList:=fun x hx=>k x ((Array.perm_iff_toList_perm.mp h.perm).mem_iff.mp hx)
theorem m8 {xs ys:Array Keyed}{i j:Nat}(e:xs[i]?=ys[j]?):kA κ xs i=kA κ ys j:=by unfold kA;rw [e]
theorem Aj {xs:Array Keyed}{i j:Nat}(hj:j<=xs.size)(k:Nat):kA κ (mirror xs i j ((j-i) / 2)) k=if i<=k/\k<j then kA κ xs (i+j-1-k) else kA κ xs k:=by
 have e:=getElem?_mirror_all (i:=i) hj k
 split
 ·rename_i z;rw [if_pos z] at e;exact m8 e
 ·rename_i z;rw [if_neg z] at e;exact m8 e
theorem ve {xs:Array Keyed}{i j:Nat}(hj:j<=xs.size)(k:Nat)(hk:k<i):(mirror xs i j ((j-i) / 2))[k]?=xs[k]?:=by
 rw [getElem?_mirror_all hj,if_neg (by omega)]
theorem sv {xs:Array Keyed}{i j:Nat}(hj:j<=xs.size)(he:∀ k,i<=k->k<j->kA κ xs k=kA κ xs (j-1))(k:Nat):kA κ (mirror xs i j ((j-i) / 2)) k=kA κ xs k:=by
 rw [Aj hj]
 split
 ·rw [he _ (by omega) (by omega),he k (by omega) (by omega)]
 ·rfl
theorem Jl {xs:Array Keyed}{src d:Nat}(hs:src<xs.size)(hd:d<=src)(k:Nat):kA κ (bubble xs src d) k=if k=src-d then kA κ xs src else if src-d<k/\k<=src then kA κ xs (k-1) else kA κ xs k:=by
 have e:=getElem?_bubble hs d hd k
 split
 ·rename_i z;rw [if_pos z] at e;exact m8 e
 ·rename_i z
  rw [if_neg z] at e
  split
  ·rename_i z2;rw [if_pos z2] at e;exact m8 e
  ·rename_i z2;rw [if_neg z2] at e;exact m8 e
theorem Tv {xs:Array Keyed}{src d:Nat}(hs:src<xs.size)(hd:d<=src)(k:Nat)(hk:k<src-d):(bubble xs src d)[k]?=xs[k]?:=by
 rw [getElem?_bubble hs d hd,if_neg (by omega),if_neg (by omega)]
end
section
variable {prog:Program}{w:World}{A:Around}{E:Value->Shared->Prop}{s:Shared}{kd:SortKind}{κ:KeyKind}{a0 x0:Array Keyed}{p:Array (Nat×Nat×Nat)}{lo:Nat}
theorem pV (C:iM prog w A E s kd κ)(k0:Kd κ a0.toList){st:SortSt}(hB:SB kd a0 p lo x0 st){i j:Nat}{Q:Option Bool->SortSt->Prop}(hi:i<a0.size)(hj:j<a0.size)(h:Q (some (κ.blt (kA κ (arrOf st) i) (kA κ (arrOf st) j))) st):wpS (model prog w) A E s (ltAt' i j) Q st:=by
 obtain ⟨x,ex,mx⟩:=dP (arr:=arrOf st) (i:=i) (by rw [hB.size];exact hi)
 obtain ⟨y,ey,my⟩:=dP (arr:=arrOf st) (i:=j) (by rw [hB.size];exact hj)
 rw [bI ex,bI ey] at h
 rw [ltAt'_eq]
 refine wpS_bind (wpS_get ?_)
 show wpS _ _ _ _ (elem' (arrOf st) i >>= fun x=>elem' (arrOf st) j >>= fun y=>lt' x y) Q st
 exact wpS_bind (cY ex (wpS_bind (cY ey (C.lt st x y _ hB.kind (hB.keys k0 x mx) (hB.keys k0 y my) h))))
theorem Mh (C:iM prog w A E s kd κ)(k0:Kd κ a0.toList){st:SortSt}(hB:SB kd a0 p lo x0 st){n dW:Nat}(n1 : 1<=n)(hn:n<=dW)(hr:lo+dW<=a0.size)(hs:SS κ (arrOf st) lo n)(f:Nat->(Option (Option Nat)×Nat)->SM (ForInStep (Option (Option Nat)×Nat)))(hf:∀ (x n:Nat) (Q:ForInStep (Option (Option Nat)×Nat)->SortSt->Prop),1<=n->n<dW->(κ.klt (kA κ (arrOf st) (lo+n)) (kA κ (arrOf st) (lo+n-1))->Q (.done (none,n)) st)->(κ.kle (kA κ (arrOf st) (lo+n-1)) (kA κ (arrOf st) (lo+n))->Q (.yield (none,n+1)) st)->wpS (model prog w) A E s (f x (none,n)) Q st) :
  wpS (model prog w) A E s (forIn [n:dW] ((none,n):Option (Option Nat)×Nat) f) (fun c ag=>ag=st/\∃ m,c=(none,m)/\n<=m/\m<=dW/\SS κ (arrOf st) lo m/\(m=dW\/κ.klt (kA κ (arrOf st) (lo+m)) (kA κ (arrOf st) (lo+m-1)))) st:=by
 refine wpS_forRange (I:=fun t c ag=>ag=st/\c=(none,t)/\SS κ (arrOf st) lo t) ?_ ?_ ⟨rfl,rfl,hs⟩
 ·rintro t c ag h1 h2 ⟨rfl,rfl,lA⟩
  refine hf t t _ (by omega) h2 (fun z=>⟨rfl,t,rfl,h1,by omega,lA,.inr z⟩) (fun z=>⟨rfl,rfl,fun i j bL hj=>?_⟩)
  by_cases e:j<t
  ·exact lA i j bL e
  ·have:j=t:=by omega
   subst this
   by_cases e2:i=j
   ·subst e2;exact KeyOrd.kle_refl _
   ·refine KeyOrd.kle_trans (lA i (j-1) (by omega) (by omega)) ?_
    rw [show lo+(j-1)=lo+j-1 by omega];exact z
 ·rintro c ag ⟨rfl,rfl,lA⟩
  rw [show max n dW=dW by omega] at lA ⊢
  exact ⟨rfl,dW,rfl,hn,Nat.le_refl _,lA,.inl rfl⟩
theorem Mi (C:iM prog w A E s kd κ)(k0:Kd κ a0.toList){st:SortSt}(hB:SB kd a0 p lo x0 st){dW:Nat}{Q:Option Nat->SortSt->Prop}(n1 : 1<=dW)(hr:lo+dW<=a0.size)(h:∀ m ag,SB kd a0 p lo x0 ag->1<=m->m<=dW->SS κ (arrOf ag) lo m->Q (some m) ag):wpS (model prog w) A E s (countRun' lo dW) Q st:=by
 have s1:SS κ (arrOf st) lo 1:=fun i j bL hj=>by
  have:i=j:=by omega
  subst this
  exact KeyOrd.kle_refl _
 refine wpS_bind (wpS_mono (Mh C k0 hB (Nat.le_refl 1) n1 hr s1 _ fun x n Q h1 h2 q1 q2=>?_) ?_)
 ·(with_reducible conv=>arg 5;whnf)
  refine wpS_bind (pV C k0 hB (by omega) (by omega) ?_)
  (try dsimp -zeta only)
  cases e : κ.blt (kA κ (arrOf st) (lo+n)) (kA κ (arrOf st) (lo+n-1)) with
  |true=>rw [if_pos rfl];exact wpS_pure (q1 e)
  |false=>rw [if_neg (by decide)];(with_reducible conv=>arg 5;whnf);exact wpS_pure (q2 e)
 rintro c ag ⟨rfl,n,rfl,m1,m2,hs,xT⟩
 (with_reducible conv=>arg 5;whnf)
 (try dsimp -zeta only)
 by_cases hz:(n==dW)=true
 ·rw [if_pos hz]
  exact wpS_pure (h n _ hB m1 m2 hs)
 rw [if_neg hz]
 have dX:n ≠ dW:=fun z=>hz (beq_iff_eq.mpr z)
 have aZ:=xT.resolve_left dX
 extract_lets +onlyGivenNames -merge -underBinder Ng
 obtain ⟨jp,eK⟩:∃ z,z=Ng:=⟨Ng,rfl⟩
 rw [<- eK]
 suffices J:∀ st,SB kd a0 p lo x0 st->DS κ (arrOf st) lo (n+1)->wpS (model prog w) A E s (jp ()) Q st by
  by_cases hg:n > 1
  ·rw [if_pos hg]
   refine wpS_bind (pV C k0 hB (by omega) (by omega) ?_)
   (try dsimp -zeta only)
   cases e : κ.blt (kA κ (arrOf ag) lo) (kA κ (arrOf ag) (lo+n-1)) with
   |true=>rw [if_pos rfl];exact wpS_pure (h n _ hB m1 m2 hs)
   |false =>
    rw [if_neg (by decide)]
    have hsz:lo+n<=(arrOf ag).size:=by rw [hB.size];omega
    have all:∀ k,lo<=k->k<lo+n->kA κ (arrOf ag) k=kA κ (arrOf ag) (lo+n-1):=fun k b1 b2=>by
     have c1:=hs 0 (k-lo) (by omega) (by omega)
     have c2:=hs (k-lo) (n-1) (by omega) (by omega)
     rw [show lo+(k-lo)=k by omega] at c1 c2
     rw [show lo+(n-1)=lo+n-1 by omega] at c2
     exact KeyOrd.kle_antisymm c2 (KeyOrd.kle_trans (show κ.kle _ _ from e) c1)
    refine wpS_bind (wpS_modify (J _ (hB.set (mirror_perm _ _ _ _) fun i hi=>ve hsz i hi) fun i j bL hj=>?_))
    show κ.kle (kA κ (mirror (arrOf ag) _ _ _) _) (kA κ (mirror (arrOf ag) _ _ _) _)
    rw [sv hsz all,sv hsz all]
    by_cases xU:j<n
    ·rw [all (lo+i) (by omega) (by omega),all (lo+j) (by omega) (by omega)];exact KeyOrd.kle_refl _
    ·have:j=n:=by omega
     subst this
     by_cases e2:i=j
     ·subst e2;exact KeyOrd.kle_refl _
     ·rw [all (lo+i) (by omega) (by omega)];exact KeyOrd.kle_of_klt aZ
  ·rw [if_neg hg]
   have:n=1:=by omega
   subst this
   refine J _ hB fun i j bL hj=>?_
   by_cases e2:i=j
   ·subst e2;exact KeyOrd.kle_refl _
   ·have i0:i=0:=by omega
    have j1:j=1:=by omega
    subst i0 j1
    exact KeyOrd.kle_of_klt aZ
 clear hs xT aZ hB s1
 intro st hB hd
 rw [eK]
 (try dsimp -zeta only)
 refine wpS_bind (wpS_lift (wpAny_rule ⟨rfl,?_⟩))
 (with_reducible conv=>arg 5;whnf)
 refine wpS_bind (wpS_mono (wpS_forRange (I:=fun t c ag=>∃ q,c=(none,t,q)/\SB kd a0 p lo x0 ag/\DS κ (arrOf ag) lo t/\q+1<=t/\∀ i,t-(q+1)<=i->i<t->kA κ (arrOf ag) (lo+i)=kA κ (arrOf ag) (lo+t-1))
  (Q:=fun c ag=>∃ t q,c=(none,t,q)/\1<=t/\t<=dW/\SB kd a0 p lo x0 ag/\DS κ (arrOf ag) lo t/\q+1<=t/\∀ i,t-(q+1)<=i->i<t->kA κ (arrOf ag) (lo+i)=kA κ (arrOf ag) (lo+t-1)) ?_ ?_ ⟨0,rfl,hB,hd,by omega,fun i b1 b2=>by rw [show lo+i=lo+(n+1)-1 by omega]⟩) ?_)
 ·rintro t c ag t1 t2 ⟨q,rfl,hB,hd,hq,he⟩
  have hsz:lo+t<=(arrOf ag).size:=by rw [hB.size];omega
  (with_reducible conv=>arg 5;whnf)
  (try dsimp -zeta only)
  refine wpS_bind (pV C k0 hB (by omega) (by omega) ?_)
  (try dsimp -zeta only)
  extract_lets +onlyGivenNames -merge -underBinder Mj
  obtain ⟨j1,mQ⟩:∃ z,z=Mj:=⟨Mj,rfl⟩
  rw [<- mQ]
  cases e : κ.blt (kA κ (arrOf ag) (lo+t)) (kA κ (arrOf ag) (lo+t-1)) with
  |true =>
   rw [if_pos rfl]
   extract_lets +onlyGivenNames -merge -underBinder Mk
   obtain ⟨j2,lz⟩:∃ z,z=Mk:=⟨Mk,rfl⟩
   rw [<- lz]
   have step:∀ xs:Array Keyed,(∀ k,kA κ xs k=kA κ (arrOf ag) k)->DS κ xs lo (t+1):=fun xs hk i j bL hj=>by
    rw [hk,hk]
    by_cases Ex:j<t
    ·exact hd i j bL Ex
    ·have:j=t:=by omega
     subst this
     by_cases e2:i=j
     ·subst e2;exact KeyOrd.kle_refl _
     ·refine KeyOrd.kle_trans (KeyOrd.kle_of_klt e) ?_
      have:=hd i (j-1) (by omega) (by omega)
      rwa [show lo+(j-1)=lo+j-1 by omega] at this
   have lr:∀ k,lo+t-(q+1)<=k->k<lo+t->kA κ (arrOf ag) k=kA κ (arrOf ag) (lo+t-1):=fun k b1 b2=>by
    have:=he (k-lo) (by omega) (by omega)
    rwa [show lo+(k-lo)=k by omega] at this
   split
   ·refine wpS_bind (wpS_modify ?_)
    rw [lz]
    (with_reducible conv=>arg 5;whnf)
    rw [mQ]
    (with_reducible conv=>arg 5;whnf)
    exact wpS_pure ⟨0,rfl,hB.set (mirror_perm _ _ _ _) fun i hi=>ve hsz i (by omega),step _ (sv hsz lr),by omega,fun i b1 b2=>by rw [show lo+i=lo+(t+1)-1 by omega]⟩
   ·rw [lz]
    (with_reducible conv=>arg 5;whnf)
    rw [mQ]
    (with_reducible conv=>arg 5;whnf)
    exact wpS_pure ⟨0,rfl,hB,step _ (fun _=>rfl),by omega,fun i b1 b2=>by rw [show lo+i=lo+(t+1)-1 by omega]⟩
  |false =>
   rw [if_neg (by decide)]
   refine wpS_bind (pV C k0 hB (by omega) (by omega) ?_)
   (try dsimp -zeta only)
   cases e2 : κ.blt (kA κ (arrOf ag) (lo+t-1)) (kA κ (arrOf ag) (lo+t)) with
   |true =>
    rw [if_pos rfl]
    exact wpS_pure ⟨t,q,rfl,by omega,by omega,hB,hd,hq,he⟩
   |false =>
    rw [if_neg (by decide)]
    (with_reducible conv=>arg 5;whnf)
    rw [mQ]
    (with_reducible conv=>arg 5;whnf)
    have eq:kA κ (arrOf ag) (lo+t)=kA κ (arrOf ag) (lo+t-1):=KeyOrd.kle_antisymm e2 e
    refine wpS_pure ⟨q+1,rfl,hB,fun i j bL hj=>?_,by omega,fun i b1 b2=>?_⟩
    ·by_cases Ex:j<t
     ·exact hd i j bL Ex
     ·have:j=t:=by omega
      subst this
      by_cases e3:i=j
      ·subst e3;exact KeyOrd.kle_refl _
      ·rw [eq]
       have:=hd i (j-1) (by omega) (by omega)
       rwa [show lo+(j-1)=lo+j-1 by omega] at this
    ·rw [show lo+(t+1)-1=lo+t by omega]
     by_cases hit:i=t
     ·subst hit;rfl
     ·rw [eq];exact he i (by omega) (by omega)
 ·rintro c ag ⟨q,rfl,hB,hd,hq,he⟩
  rw [show max (n+1) dW=dW by omega] at hd hq he ⊢
  exact ⟨dW,q,rfl,by omega,Nat.le_refl _,hB,hd,hq,he⟩
 clear hB hd
 rintro c ag ⟨t,q,rfl,t1,t2,hB,hd,hq,he⟩
 have hsz:lo+t<=(arrOf ag).size:=by rw [hB.size];omega
 (extract_lets +onlyGivenNames -merge -underBinder W2 W3 W4 W5;subst W2 W3 W4 W5)
 (try dsimp -zeta only)
 extract_lets +onlyGivenNames -merge -underBinder Ml
 obtain ⟨j3,Qc⟩:∃ z,z=Ml:=⟨Ml,rfl⟩
 rw [<- Qc]
 suffices J3:∀ st,SB kd a0 p lo x0 st->DS κ (arrOf st) lo t->wpS (model prog w) A E s (j3 ()) Q st by
  split
  ·have lr:∀ k,lo+t-(q+1)<=k->k<lo+t->kA κ (arrOf ag) k=kA κ (arrOf ag) (lo+t-1):=fun k b1 b2=>by
    have:=he (k-lo) (by omega) (by omega)
    rwa [show lo+(k-lo)=k by omega] at this
   refine wpS_bind (wpS_modify (J3 _ (hB.set (mirror_perm _ _ _ _) fun i hi=>ve hsz i (by omega)) fun i j bL hj=>?_))
   show κ.kle (kA κ (mirror (arrOf ag) _ _ _) _) (kA κ (mirror (arrOf ag) _ _ _) _)
   rw [sv hsz lr,sv hsz lr]
   exact hd i j bL hj
  ·exact J3 _ hB hd
 clear hB hd he hsz
 intro st hB hd
 rw [Qc]
 (try dsimp -zeta only)
 have hsz:lo+t<=(arrOf st).size:=by rw [hB.size];omega
 refine wpS_bind (wpS_modify ?_)
 have jJ:SB kd a0 p lo x0 (setArr st (mirror (arrOf st) lo (lo+t) ((lo+t-lo) / 2))):=hB.set (mirror_perm _ _ _ _) fun i hi=>ve hsz i hi
 refine wpS_bind (wpS_mono (Mh C k0 jJ t1 t2 hr (fun i j bL hj=>?_) _ fun x n Q h1 h2 q1 q2=>?_) ?_)
 ·show κ.kle (kA κ (mirror (arrOf st) _ _ _) _) (kA κ (mirror (arrOf st) _ _ _) _)
  rw [Aj hsz,Aj hsz,if_pos (by omega),if_pos (by omega)]
  have:=hd (t-1-j) (t-1-i) (by omega) (by omega)
  rwa [show lo+(t-1-i)=lo+(lo+t)-1-(lo+i) by omega,show lo+(t-1-j)=lo+(lo+t)-1-(lo+j) by omega] at this
 ·(with_reducible conv=>arg 5;whnf)
  refine wpS_bind (pV C k0 jJ (by omega) (by omega) ?_)
  (try dsimp -zeta only)
  cases e : κ.blt (kA κ (arrOf (setArr st (mirror (arrOf st) lo (lo+t) ((lo+t-lo) / 2)))) (lo+n)) (kA κ (arrOf (setArr st (mirror (arrOf st) lo (lo+t) ((lo+t-lo) / 2)))) (lo+n-1)) with
  |true=>rw [if_pos rfl];exact wpS_pure (q1 e)
  |false=>rw [if_neg (by decide)];(with_reducible conv=>arg 5;whnf);exact wpS_pure (q2 e)
 ·rintro c ag ⟨rfl,m,rfl,b1,b2,hs,_⟩
  (with_reducible conv=>arg 5;whnf)
  (try dsimp -zeta only)
  exact wpS_pure (h m _ jJ (by omega) b2 hs)
end
section
variable {prog:Program}{w:World}{A:Around}{E:Value->Shared->Prop}{s:Shared}{kd:SortKind}{κ:KeyKind}{a0 x0:Array Keyed}{p:Array (Nat×Nat×Nat)}{lo:Nat}
theorem Mm (C:iM prog w A E s kd κ)(k0:Kd κ a0.toList){st:SortSt}(hB:SB kd a0 p lo x0 st){n ok:Nat}{Q:Bool->SortSt->Prop}(hn:lo+n<=a0.size)(av:ok<=n)(hs:SS κ (arrOf st) lo ok)(h:∀ ag,SB kd a0 p lo x0 ag->SS κ (arrOf ag) lo n->Q true ag):wpS (model prog w) A E s (binarySort' lo n ok) Q st:=by
 refine wpS_bind (wpS_mono (wpS_forRange (I:=fun t c ag=>c=(none,())/\SB kd a0 p lo x0 ag/\SS κ (arrOf ag) lo (min t n))
  (Q:=fun c ag=>c=(none,())/\SB kd a0 p lo x0 ag/\SS κ (arrOf ag) lo n) ?_ ?_ ⟨rfl,hB,fun i j bL hj=>?_⟩) ?_)
 ·rintro t c ag t1 t2 ⟨rfl,hB,hs⟩
  rw [show min t n=t by omega] at hs
  (with_reducible conv=>arg 5;whnf)
  refine wpS_bind (wpS_mono (wpS_forRange (I:=fun x c aD=>aD=ag/\∃ l r,c=(none,l,r)/\l<=r/\r<=t/\r-l<=t-x/\(∀ i,i<l->κ.kle (kA κ (arrOf ag) (lo+i)) (kA κ (arrOf ag) (lo+t)))/\(∀ i,r<=i->i<t->κ.klt (kA κ (arrOf ag) (lo+t)) (kA κ (arrOf ag) (lo+i))))
   (Q:=fun c aD=>aD=ag/\∃ l,c=(none,l,l)/\l<=t/\(∀ i,i<l->κ.kle (kA κ (arrOf ag) (lo+i)) (kA κ (arrOf ag) (lo+t)))/\(∀ i,l<=i->i<t->κ.klt (kA κ (arrOf ag) (lo+t)) (kA κ (arrOf ag) (lo+i)))) ?_ ?_ ⟨rfl,0,t,rfl,by omega,by omega,by omega,fun i z=>by omega,fun i z1 z2=>by omega⟩) ?_)
  ·rintro x c aD _ hx ⟨rfl,l,r,rfl,a1,a2,a3,a4,a5⟩
   (with_reducible conv=>arg 5;whnf)
   (try dsimp -zeta only)
   by_cases hg:l >= r
   ·rw [if_pos hg]
    have:l=r:=by omega
    subst this
    exact wpS_pure ⟨rfl,l,rfl,a2,a4,a5⟩
   ·rw [if_neg hg]
    (with_reducible conv=>arg 5;whnf)
    refine wpS_bind (pV C k0 hB (by omega) (by omega) ?_)
    (try dsimp -zeta only)
    cases e : κ.blt (kA κ (arrOf aD) (lo+t)) (kA κ (arrOf aD) (lo+(l+r) / 2)) with
    |true =>
     rw [if_pos rfl]
     (with_reducible conv=>arg 5;whnf)
     exact wpS_pure ⟨rfl,l,(l+r) / 2,rfl,by omega,by omega,by omega,a4,fun i z1 z2=>KeyOrd.klt_of_klt_of_kle e (hs _ _ z1 z2)⟩
    |false =>
     rw [if_neg (by decide)]
     (with_reducible conv=>arg 5;whnf)
     exact wpS_pure ⟨rfl,(l+r) / 2+1,r,rfl,by omega,by omega,by omega,fun i z=>KeyOrd.kle_trans (hs i ((l+r) / 2) (by omega) (by omega)) e,a5⟩
  ·rintro c aD ⟨rfl,l,r,rfl,a1,a2,a3,a4,a5⟩
   have:l=r:=by omega
   subst this
   exact ⟨rfl,l,rfl,a2,a4,a5⟩
  ·rintro c aD ⟨rfl,l,rfl,a2,a4,a5⟩
   (with_reducible conv=>arg 5;whnf)
   (try dsimp -zeta only)
   have hsz:lo+t<(arrOf aD).size:=by rw [hB.size];omega
   refine wpS_bind (wpS_modify (wpS_pure ⟨rfl,hB.set (bubble_perm _ _ _) fun i hi=>Tv hsz (by omega) i (by omega),?_⟩))
   rw [show min (t+1) n=t+1 by omega]
   intro i j bL hj
   show κ.kle (kA κ (bubble (arrOf aD) (lo+t) (lo+t-(lo+l))) _) (kA κ (bubble (arrOf aD) (lo+t) (lo+t-(lo+l))) _)
   rw [Jl hsz (by omega),Jl hsz (by omega),show lo+t-(lo+t-(lo+l))=lo+l by omega]
   repeat' split
   all_goals first
    |(exfalso;omega)
    |exact KeyOrd.kle_refl _
    |exact a4 _ (by omega)
    |exact hs _ _ (by omega) (by omega)
    |(have z:=a5 (j-1) (by omega) (by omega);rw [show lo+(j-1)=lo+j-1 by omega] at z;exact KeyOrd.kle_of_klt z)
    |(have z:=hs (i-1) (j-1) (by omega) (by omega);rw [show lo+(i-1)=lo+i-1 by omega,show lo+(j-1)=lo+j-1 by omega] at z;exact z)
    |(have z:=hs i (j-1) (by omega) (by omega);rw [show lo+(j-1)=lo+j-1 by omega] at z;exact z)
 ·rintro c ag ⟨rfl,hB,hs⟩
  rw [show min (max (max ok 1) n) n=n by omega] at hs
  exact ⟨rfl,hB,hs⟩
 ·by_cases e:ok=0
  ·have:i=j:=by omega
   subst this;exact KeyOrd.kle_refl _
  ·exact hs i j bL (by omega)
 ·rintro c ag ⟨rfl,hB,hs⟩
  (with_reducible conv=>arg 5;whnf)
  (try dsimp -zeta only)
  exact wpS_pure (h ag hB hs)
theorem JT {α:Type}(sa:Nat):∀ (m:List α) (k:Nat) (xs:Array α),sa+k+m.length<=xs.size->((m.zipIdx k).foldl (fun a x=>a.setIfInBounds (sa+x.2) x.1) xs).toList=xs.toList.take (sa+k)++m++xs.toList.drop (sa+k+m.length)
 |[],k,xs,h=>by
  rw [List.zipIdx_nil,List.foldl_nil,List.append_nil,List.length_nil,Nat.add_zero,List.take_append_drop]
 |x::m,k,xs,h=>by
  rw [List.length_cons] at h
  rw [List.zipIdx_cons,List.foldl_cons,JT sa m (k+1) _ (by rw [Array.size_setIfInBounds];omega),Array.toList_setIfInBounds]
  have hl:sa+k<xs.toList.length:=by rw [Array.length_toList];omega
  rw [show sa+(k+1)=sa+k+1 by omega,List.take_succ_eq_append_getElem (by rw [List.length_set];exact hl),List.getElem_set_self,List.take_set_of_le (Nat.le_refl _),List.drop_set_of_lt (by omega),List.length_cons,show sa+k+1+m.length=sa+k+(m.length+1) by omega]
  simp
theorem pK {arr:Array Keyed}{x:Keyed}{i n:Nat}(h:x ∈ (arr.extract i n).toList):∃ j,i<=j/\j<n/\arr[j]?=some x:=by
 rw [pU] at h
 exact BZ h
theorem vO {arr:Array Keyed}{i n:Nat}(h:∀ a b,i<=a->a<=b->b<n->κ.kle (kA κ arr a) (kA κ arr b))(hn:n<=arr.size):dJ κ (arr.extract i n).toList:=by
 unfold dJ
 rw [List.pairwise_iff_getElem]
 intro a b ha hb qM
 have get:∀ c (hc:c<(arr.extract i n).toList.length),arr[i+c]?=some ((arr.extract i n).toList[c]):=fun c hc=>by
  have e1:(arr.extract i n).toList[c]?=some ((arr.extract i n).toList[c]):=List.getElem?_eq_getElem hc
  have e3:c<(arr.extract i n).size:=by rw [<- Array.length_toList];exact hc
  rw [Array.size_extract] at e3
  rw [<- e1,pU,List.getElem?_drop,List.getElem?_take,if_pos (by omega),Array.getElem?_toList]
 have lb:b<(arr.extract i n).size:=by rw [<- Array.length_toList];exact hb
 rw [Array.size_extract] at lb
 have:=h (i+a) (i+b) (by omega) (by omega) (by omega)
 rwa [bI (get a ha),bI (get b hb)] at this
end
section
variable {prog:Program}{w:World}{A:Around}{E:Value->Shared->Prop}{s:Shared}{kd:SortKind}{κ:KeyKind}{a0 x0:Array Keyed}
theorem KW {arr:Array Keyed}{n1 n:Nat}(h1:SS κ arr 0 n1)(h2:SS κ arr n1 (n-n1))(h:∀ i j,i<n1->n1<=j->j<n->κ.kle (kA κ arr i) (kA κ arr j)):∀ i j,i<=j->j<n->κ.kle (kA κ arr i) (kA κ arr j):=fun i j bL hj=>by
 by_cases z1:j<n1
 ·have:=h1 i j bL z1
  rwa [Nat.zero_add,Nat.zero_add] at this
 ·by_cases z2:i<n1
  ·exact h i j z2 (by omega) hj
  ·have:=h2 (i-n1) (j-n1) (by omega) (by omega)
   rwa [show n1+(i-n1)=i by omega,show n1+(j-n1)=j by omega] at this
structure DE (kd:SortKind) (κ:KeyKind) (a0:Array Keyed) (st:SortSt):Prop where
 perm:(arrOf st).Perm a0
 fail:failedOf st=none
 one:(pendingOf st).size=1
 uz:∀ i j,i<=j->j<a0.size->κ.kle (kA κ (arrOf st) i) (kA κ (arrOf st) j)
theorem S3 (C:iM prog w A E s kd κ)(k0:Kd κ a0.toList){st:SortSt}{n1 pw q:Nat}(hB:SB kd a0 #[(0,n1,pw),(n1,a0.size-n1,q)] 0 x0 st){Q:Bool->SortSt->Prop}(h1 : 1<=n1)(h2:n1<a0.size)(s1:SS κ (arrOf st) 0 n1)(s2:SS κ (arrOf st) n1 (a0.size-n1))(h:∀ ag,DE kd κ a0 ag->Q true ag):wpS (model prog w) A E s (mergeAt' 0) Q st:=by
 have sz:=hB.size
 have kk:=hB.keys k0
 refine wpS_bind (wpS_get ?_)
 (try dsimp -zeta only)
 have e0:(pendingOf st)[0]?=some (0,n1,pw):=by rw [hB.pend];rfl
 have e1:(pendingOf st)[0+1]?=some (n1,a0.size-n1,q):=by rw [hB.pend];rfl
 obtain ⟨P,eP,hP⟩:∃ P,((pendingOf st).setIfInBounds 0 (0,n1+(a0.size-n1),pw)).eraseIdxIfInBounds (0+1)=P/\P.size=1:=⟨_,rfl,by rw [hB.pend];simp [Array.eraseIdxIfInBounds]⟩
 show wpS (model prog w) A E s (match ((pendingOf st)[0]?,(pendingOf st)[0+1]?) with | _=>_) Q st
 rw [e0,e1]
 (try dsimp -zeta only)
 refine wpS_bind ?_
 show wpS (model prog w) A E s (set (SortSt.mk' (kindOf st) (arrOf st) (((pendingOf st).setIfInBounds 0 (0,n1+(a0.size-n1),pw)).eraseIdxIfInBounds (0+1)) (gallopOf st) (failedOf st))) _ st
 rw [eP]
 unfold wpS
 rw [StateT.run_set]
 refine wpAny_pure ⟨rfl,?_⟩
 show wpS (model prog w) A E s _ Q (SortSt.mk' (kindOf st) (arrOf st) P (gallopOf st) (failedOf st))
 obtain ⟨xb,eb,mb⟩:=dP (arr:=arrOf st) (i:=n1) (by omega)
 refine wpS_bind (cY eb ?_)
 refine wpS_bind (Ai C (arr:=arrOf st) (key:=xb) hB.kind (kk _ mb) kk (by omega) (by omega) (fun i j bL hj=>s1 i j bL hj) fun k k1 k2 k3=>?_)
 simp only [Nat.zero_add] at k2 k3
 (try dsimp -zeta only)
 have up:∀ i j,n1<=i->i<=j->j<a0.size->κ.kle (kA κ (arrOf st) i) (kA κ (arrOf st) j):=fun i j z1 z2 z3=>by
  have:=s2 (i-n1) (j-n1) (by omega) (by omega)
  rwa [show n1+(i-n1)=i by omega,show n1+(j-n1)=j by omega] at this
 have dn:∀ i j,i<=j->j<n1->κ.kle (kA κ (arrOf st) i) (kA κ (arrOf st) j):=fun i j z1 z2=>by
  have:=s1 i j z1 z2
  rwa [Nat.zero_add,Nat.zero_add] at this
 by_cases hz:(n1-k==0)=true
 ·rw [if_pos hz]
  have dX:=beq_iff_eq.mp hz
  refine wpS_pure (h _ ⟨hB.perm,hB.fail,hP,KW s1 s2 fun i j z1 z2 z3=>?_⟩)
  have:=k2 i (by omega)
  rw [<- bI (κ:=κ) eb] at this
  exact KeyOrd.kle_trans this (up n1 j (Nat.le_refl _) z2 z3)
 rw [if_neg hz]
 have dX:n1-k ≠ 0:=fun z=>hz (beq_iff_eq.mpr z)
 obtain ⟨xa,ea,ma⟩:=dP (arr:=arrOf st) (i:=0+k+(n1-k)-1) (by omega)
 refine wpS_bind (cY ea ?_)
 rw [show 0+k+(n1-k)-1=n1-1 by omega] at ea
 refine wpS_bind (AQ C (arr:=arrOf st) (key:=xa) hB.kind (kk _ ma) kk (by omega) (by omega) (fun i j bL hj=>s2 i j bL hj) fun l l1 l2 l3=>?_)
 (try dsimp -zeta only)
 by_cases hy:(l==0)=true
 ·rw [if_pos hy]
  have cW:=beq_iff_eq.mp hy
  refine wpS_pure (h _ ⟨hB.perm,hB.fail,hP,KW s1 s2 fun i j z1 z2 z3=>?_⟩)
  have:=l3 (j-n1) (by omega) (by omega)
  rw [<- bI (κ:=κ) ea,show n1+(j-n1)=j by omega] at this
  exact KeyOrd.kle_trans (dn i (n1-1) (by omega) (by omega)) this
 rw [if_neg hy]
 have cW:l ≠ 0:=fun z=>hy (beq_iff_eq.mpr z)
 (extract_lets +onlyGivenNames -merge -underBinder Yv Yw;subst Yv Yw)
 extract_lets +onlyGivenNames -merge -underBinder CL
 obtain ⟨jp,eK⟩:∃ z,z=CL:=⟨CL,rfl⟩
 rw [<- eK]
 unfold CL at eK
 rw [Nat.zero_add] at eK ⊢
 have sA:dJ κ ((arrOf st).extract k n1).toList:=vO (fun a b z1 z2 z3=>dn a b z2 z3) (by omega)
 have sB:dJ κ ((arrOf st).extract n1 (n1+l)).toList:=vO (fun a b z1 z2 z3=>up a b z1 z2 (by omega)) (by omega)
 have Qd:Kd κ ((arrOf st).extract k n1).toList:=fun x hx=>by
  obtain ⟨j,_,_,e⟩:=pK hx
  exact kk x (by have:=List.mem_of_getElem? (by rw [Array.getElem?_toList];exact e:(arrOf st).toList[j]?=some x);exact this)
 have Qe:Kd κ ((arrOf st).extract n1 (n1+l)).toList:=fun x hx=>by
  obtain ⟨j,_,_,e⟩:=pK hx
  exact kk x (by have:=List.mem_of_getElem? (by rw [Array.getElem?_toList];exact e:(arrOf st).toList[j]?=some x);exact this)
 have zA:((arrOf st).extract k n1).size=n1-k:=by rw [Array.size_extract];omega
 have zB:((arrOf st).extract n1 (n1+l)).size=l:=by rw [Array.size_extract];omega
 have gA:∀ i,i<n1-k->((arrOf st).extract k n1)[i]?=(arrOf st)[k+i]?:=fun i hi=>by rw [Array.getElem?_extract,if_pos (by omega)]
 have gB:∀ i,i<l->((arrOf st).extract n1 (n1+l))[i]?=(arrOf st)[n1+i]?:=fun i hi=>by rw [Array.getElem?_extract,if_pos (by omega)]
 have first:∀ x y,((arrOf st).extract n1 (n1+l))[0]?=some x->((arrOf st).extract k n1)[0]?=some y->κ.kle (kf κ x) (kf κ y):=fun x y ex ey=>by
  rw [gB 0 (by omega)] at ex
  rw [gA 0 (by omega)] at ey
  have:=k3 k (Nat.le_refl _) (by omega)
  rw [<- bI (κ:=κ) eb] at this
  rw [<- bI (κ:=κ) ex,<- bI (κ:=κ) ey]
  exact KeyOrd.kle_of_klt this
 have last:∀ x ∈ ((arrOf st).extract n1 (n1+l)).toList,∀ y,((arrOf st).extract k n1)[((arrOf st).extract k n1).size-1]?=some y->κ.kle (kf κ x) (kf κ y):=fun x hx y ey=>by
  obtain ⟨j,j1,j2,e⟩:=pK hx
  rw [zA,gA _ (by omega),show k+(n1-k-1)=n1-1 by omega,ea] at ey
  cases ey
  have:=l2 (j-n1) (by omega)
  rw [show n1+(j-n1)=j by omega,bI e] at this
  exact KeyOrd.kle_of_klt this
 suffices J:∀ (m:Array Keyed) g,Gd κ ((arrOf st).extract k n1).toList ((arrOf st).extract n1 (n1+l)).toList m.toList->wpS (model prog w) A E s (jp m) Q (dH (SortSt.mk' (kindOf st) (arrOf st) P (gallopOf st) (failedOf st)) g) by
  split
  ·exact wpS_bind (Wt C (a:=(arrOf st).extract k n1) (b:=(arrOf st).extract n1 (n1+l)) hB.kind Qd Qe sA sB (by rw [zA];omega) (by rw [zB];omega) first last J)
  ·exact wpS_bind (WH C (a:=(arrOf st).extract k n1) (b:=(arrOf st).extract n1 (n1+l)) hB.kind Qd Qe sA sB (by rw [zA];omega) (by rw [zB];omega) first last J)
 intro m g gd
 rw [eK]
 (try dsimp -zeta only)
 have lm:m.toList.length=(n1-k)+l:=by
  rw [gd.1.length_eq,List.length_append,Array.length_toList,Array.length_toList,zA,zB]
 have eL:=JT k m.toList 0 (arrOf st) (by omega)
 rw [Nat.add_zero,lm,show k+(n1-k+l)=n1+l by omega] at eL
 refine wpS_bind (wpS_modify (wpS_bind (wpS_get ?_)))
 have fin:∀ xs:Array Keyed,xs.toList=(arrOf st).toList.take k++m.toList++(arrOf st).toList.drop (n1+l)->xs.Perm a0/\∀ i j,i<=j->j<a0.size->κ.kle (kA κ xs i) (kA κ xs j):=fun xs ex=>by
  have hp:xs.toList.Perm (arrOf st).toList:=by
   rw [ex]
   have e1:(arrOf st).toList=(arrOf st).toList.take k++(((arrOf st).extract k n1).toList++((arrOf st).extract n1 (n1+l)).toList)++(arrOf st).toList.drop (n1+l):=by
    rw [pU,pU]
    have t1:(arrOf st).toList.take k++((arrOf st).toList.take n1).drop k=(arrOf st).toList.take n1:=by
     have:=List.take_append_drop k ((arrOf st).toList.take n1)
     rwa [List.take_take,Nat.min_eq_left (by omega)] at this
    have t2:(arrOf st).toList.take n1++((arrOf st).toList.take (n1+l)).drop n1=(arrOf st).toList.take (n1+l):=by
     have:=List.take_append_drop n1 ((arrOf st).toList.take (n1+l))
     rwa [List.take_take,Nat.min_eq_left (by omega)] at this
    rw [<- List.append_assoc,t1,t2,List.take_append_drop]
   exact (List.Perm.append_right _ (List.Perm.append_left _ gd.1)).trans (by rw [<- e1])
  refine ⟨(Array.perm_iff_toList_perm.mpr hp).trans hB.perm,fun i j bL hj=>?_⟩
  have hs:dJ κ xs.toList:=by
   rw [ex]
   have mm:∀ x ∈ m.toList,(∃ j,k<=j/\j<n1/\(arrOf st)[j]?=some x)\/(∃ j,n1<=j/\j<n1+l/\(arrOf st)[j]?=some x):=fun x hx=>by
    rcases List.mem_append.mp (gd.1.mem_iff.mp hx) with z | z
    ·exact .inl (pK z)
    ·exact .inr (pK z)
   have mT:∀ x ∈ (arrOf st).toList.take k,∃ j,j<k/\(arrOf st)[j]?=some x:=fun x hx=>ny hx
   have mD:∀ x ∈ (arrOf st).toList.drop (n1+l),∃ j,n1+l<=j/\j<a0.size/\(arrOf st)[j]?=some x:=fun x hx=>by
    rw [<- pJ] at hx
    obtain ⟨j,j1,j2,e⟩:=pK hx
    exact ⟨j,j1,by omega,e⟩
   refine cP.mpr ⟨cP.mpr ⟨?_,gd.2,fun x hx y hy=>?_⟩,?_,fun x hx y hy=>?_⟩
   ·rw [<- sN]
    exact vO (fun a b z1 z2 z3=>dn a b z2 (by omega)) (by omega)
   ·obtain ⟨i,i1,ei⟩:=mT x hx
    rw [<- bI (κ:=κ) ei]
    rcases mm y hy with ⟨j,j1,j2,ej⟩ | ⟨j,j1,j2,ej⟩
    ·rw [<- bI (κ:=κ) ej]
     exact dn i j (by omega) j2
    ·rw [<- bI (κ:=κ) ej]
     have:=k2 i i1
     rw [<- bI (κ:=κ) eb] at this
     exact KeyOrd.kle_trans this (up n1 j (Nat.le_refl _) j1 (by omega))
   ·rw [<- pJ]
    exact vO (fun a b z1 z2 z3=>up a b (by omega) z2 (by omega)) (Nat.le_refl _)
   ·obtain ⟨j,j1,j2,ej⟩:=mD y hy
    rw [<- bI (κ:=κ) ej]
    have tail:∀ i,i<n1->κ.kle (kA κ (arrOf st) i) (kA κ (arrOf st) j):=fun i hi=>by
     have:=l3 (j-n1) (by omega) (by omega)
     rw [<- bI (κ:=κ) ea,show n1+(j-n1)=j by omega] at this
     exact KeyOrd.kle_trans (dn i (n1-1) (by omega) (by omega)) this
    rcases List.mem_append.mp hx with z | z
    ·obtain ⟨i,i1,ei⟩:=mT x z
     rw [<- bI (κ:=κ) ei]
     exact tail i (by omega)
    ·rcases mm x z with ⟨i,i1,i2,ei⟩ | ⟨i,i1,i2,ei⟩
     ·rw [<- bI (κ:=κ) ei]
      exact tail i i2
     ·rw [<- bI (κ:=κ) ei]
      exact up i j i1 (by omega) j2
  refine lX hs bL ?_
  rw [<- Array.length_toList,hp.length_eq,Array.length_toList];omega
 obtain ⟨f1,f2⟩:=fin _ eL
 have:=wpS_pure (M:=model prog w) (A:=A) (E:=E) (s:=s) (a:=true) (Q:=Q) (h (SortSt.mk' (kindOf st) ((m.toList.zipIdx 0).foldl (fun a x=>a.setIfInBounds (k+x.2) x.1) (arrOf st)) P g (failedOf st)) ⟨f1,hB.fail,hP,f2⟩)
 show wpS (model prog w) A E s (pure (failedOf st).isNone) Q _
 have e:(failedOf st).isNone=true:=by rw [hB.fail];rfl
 rw [e]
 exact this
end
theorem W6 {n:Nat}(h2 : 2<=n)(h:n<128):n<=2*minRun' n n 0/\minRun' n n 0<=n:=by
 obtain ⟨f,rfl⟩:∃ f,n=f+2:=⟨n-2,by omega⟩
 have e:minRun' (f+2) (f+2) 0=if f+2<64 then f+2+0 else if (f+2) / 2<64 then (f+2) / 2+max 0 ((f+2) % 2) else minRun' f ((f+2) / 2 / 2) (max (max 0 ((f+2) % 2)) ((f+2) / 2 % 2)):=by
  rw [minRun'_succ,minRun'_succ]
 rw [e]
 split
 ·omega
 ·rw [if_pos (by omega)];omega
section
variable {prog:Program}{w:World}{A:Around}{E:Value->Shared->Prop}{s:Shared}{kd:SortKind}{κ:KeyKind}{a0:Array Keyed}
theorem Vn (C:iM prog w A E s kd κ)(k0:Kd κ a0.toList){st:SortSt}(hB:SB kd a0 #[] 0 a0 st){Q:Unit->SortSt->Prop}(h2 : 2<=a0.size)(Oe:a0.size<128)(h:∀ ag,(arrOf ag).Perm a0->failedOf ag=none->(∀ i j,i<=j->j<a0.size->κ.kle (kA κ (arrOf ag) i) (kA κ (arrOf ag) j))->Q () ag):wpS (model prog w) A E s sortRuns' Q st:=by
 obtain ⟨m1,m2⟩:=W6 h2 Oe
 refine wpS_bind (wpS_get ?_)
 show wpS (model prog w) A E s (have size:=(arrOf st).size;have aeX:=minRun' size size 0;_) Q st
 rw [hB.size]
 (with_reducible conv=>arg 5;whnf)
 obtain ⟨mr,Qf⟩:∃ mr,minRun' a0.size a0.size 0=mr:=⟨_,rfl⟩
 rw [Qf] at m1 m2
 rw [show (sortPriv% PySem.Builtin.minRun) a0.size a0.size 0=mr from Qf]
 refine wpS_bind (wpS_mono (wpS_forRange (I:=fun t c ag=>(t=0/\c=(none,0)/\SB kd a0 #[] 0 a0 ag) \/
   (t=1/\∃ n1,c=(none,n1)/\1<=n1/\n1<=a0.size/\mr<=n1/\SB kd a0 #[(0,n1,0)] 0 a0 ag/\SS κ (arrOf ag) 0 n1) \/
   (2<=t/\∃ n1 pw,c=(none,a0.size)/\1<=n1/\n1<a0.size/\SB kd a0 #[(0,n1,pw),(n1,a0.size-n1,0)] 0 a0 ag/\SS κ (arrOf ag) 0 n1/\SS κ (arrOf ag) n1 (a0.size-n1)))
  (Q:=fun c ag=>c.1=none/\((SB kd a0 #[(0,a0.size,0)] 0 a0 ag/\SS κ (arrOf ag) 0 a0.size)\/∃ n1 pw,1<=n1/\n1<a0.size/\SB kd a0 #[(0,n1,pw),(n1,a0.size-n1,0)] 0 a0 ag/\SS κ (arrOf ag) 0 n1/\SS κ (arrOf ag) n1 (a0.size-n1))) ?_ ?_ (.inl ⟨rfl,rfl,hB⟩)) ?_)
 ·rintro t c ag _ ht (⟨rfl,rfl,hB⟩ | ⟨rfl,n1,rfl,b1,b2,b3,hB,s1⟩ | ⟨t2,n1,pw,rfl,b1,b2,hB,s1,s2⟩)
  ·(with_reducible conv=>arg 5;whnf)
   rw [if_neg (by show ¬ 0 >= a0.size;omega)]
   refine wpS_bind (Mi C k0 hB (by show 1<=a0.size-0;omega) (by show 0+(a0.size-0)<=a0.size;omega) fun m aD jJ r1 r2 hs=>?_)
   (try dsimp -zeta only)
   (rw [show m=id m from rfl];extract_lets +onlyGivenNames -merge -underBinder aac;subst aac;(try dsimp -zeta only [id]))
   extract_lets +onlyGivenNames -merge -underBinder Nh
   obtain ⟨jp,eK⟩:∃ z,z=Nh:=⟨Nh,rfl⟩
   rw [<- eK]
   suffices J:∀ n aD,SB kd a0 #[] 0 a0 aD->1<=n->n<=a0.size->mr<=n->SS κ (arrOf aD) 0 n->wpS (model prog w) A E s (jp () n) _ aD by
    by_cases aZ:m<mr
    ·rw [if_pos aZ]
     refine wpS_bind (wpS_lift (wpAny_rule ⟨rfl,?_⟩))
     (with_reducible conv=>arg 5;whnf)
     rw [show min (a0.size-0) mr=mr by omega]
     refine wpS_bind (Mm C k0 jJ (by omega) (by omega) hs fun de Ey fc=>?_)
     rw [if_neg (by decide)]
     (with_reducible conv=>arg 5;whnf)
     exact J _ _ Ey (by omega) m2 (Nat.le_refl _) fc
    ·rw [if_neg aZ]
     have r2':m<=a0.size-0:=r2
     exact J _ _ jJ r1 (by omega) (by omega) hs
   clear hB jJ hs
   intro n aD hB r1 r2 r3 hs
   rw [eK]
   (try dsimp -zeta only)
   refine wpS_bind (wpS_get ?_)
   skip
   extract_lets +onlyGivenNames -merge -underBinder Ni
   obtain ⟨uB,jr⟩:∃ z,z=Ni:=⟨Ni,rfl⟩
   rw [<- jr]
   show wpS (model prog w) A E s (match (pendingOf aD).back? with | _=>_) _ aD
   rw [show (pendingOf aD).back?=none by rw [hB.pend];rfl]
   (try dsimp -zeta only)
   rw [jr]
   (try dsimp -zeta only)
   refine wpS_bind (wpS_modify ?_)
   (with_reducible conv=>arg 5;whnf)
   refine wpS_pure (.inr (.inl ⟨rfl,n,by show (none,0+n)=(none,n);rw [Nat.zero_add],r1,r2,r3,⟨hB.perm,hB.kind,hB.fail,?_,hB.low⟩,hs⟩))
   show (pendingOf aD).push _=_
   rw [hB.pend];rfl
  ·(with_reducible conv=>arg 5;whnf)
   by_cases full:n1 >= a0.size
   ·rw [if_pos (by exact full)]
    have:n1=a0.size:=by omega
    subst this
    exact wpS_pure ⟨rfl,.inl ⟨hB,s1⟩⟩
   rw [if_neg (by exact full)]
   have hB1:SB kd a0 #[(0,n1,0)] n1 (arrOf ag) ag:=⟨hB.perm,hB.kind,hB.fail,hB.pend,fun _ _=>rfl⟩
   refine wpS_bind (Mi C k0 hB1 (by show 1<=a0.size-n1;omega) (by show n1+(a0.size-n1)<=a0.size;omega) fun m aD jJ r1 r2 hs=>?_)
   have r2':m<=a0.size-n1:=r2
   (try dsimp -zeta only)
   (rw [show m=id m from rfl];extract_lets +onlyGivenNames -merge -underBinder aad;subst aad;(try dsimp -zeta only [id]))
   extract_lets +onlyGivenNames -merge -underBinder Nj
   obtain ⟨jp,eK⟩:∃ z,z=Nj:=⟨Nj,rfl⟩
   rw [<- eK]
   suffices J:∀ aD,SB kd a0 #[(0,n1,0)] n1 (arrOf ag) aD->SS κ (arrOf aD) n1 (a0.size-n1)->wpS (model prog w) A E s (jp () (a0.size-n1)) _ aD by
    by_cases aZ:m<mr
    ·rw [if_pos aZ]
     refine wpS_bind (wpS_lift (wpAny_rule ⟨rfl,?_⟩))
     (with_reducible conv=>arg 5;whnf)
     rw [show min (a0.size-n1) mr=a0.size-n1 by omega]
     refine wpS_bind (Mm C k0 jJ (by omega) (by omega) hs fun de Ey fc=>?_)
     rw [if_neg (by decide)]
     (with_reducible conv=>arg 5;whnf)
     exact J _ Ey fc
    ·rw [if_neg aZ]
     have:m=a0.size-n1:=by omega
     subst this
     exact J _ jJ hs
   clear hB jJ hs
   intro aD hB hs
   have ux:SS κ (arrOf aD) 0 n1:=fun i j bL hj=>by
    have:=s1 i j bL hj
    rwa [m8 (κ:=κ) (hB.low (0+i) (by omega)),m8 (κ:=κ) (hB.low (0+j) (by omega))]
   rw [eK]
   (try dsimp -zeta only)
   refine wpS_bind (wpS_get ?_)
   skip
   extract_lets +onlyGivenNames -merge -underBinder Mo
   obtain ⟨uB,jr⟩:∃ z,z=Mo:=⟨Mo,rfl⟩
   rw [<- jr]
   show wpS (model prog w) A E s (match (pendingOf aD).back? with | _=>_) _ aD
   rw [show (pendingOf aD).back?=some (0,n1,0) by rw [hB.pend];rfl]
   (try dsimp -zeta only)
   (with_reducible conv=>arg 5;whnf)
   generalize (sortPriv% PySem.Builtin.power) a0.size (2*0+n1) (2*0+n1+n1+(a0.size-n1)) a0.size=pw
   refine wpS_bind (wpS_mono (wpS_forRange (I:=fun t c ag=>ag=aD/\c=(none,())) (Q:=fun c ag=>ag=aD/\c=(none,())) ?_ (fun c ag z=>z) ⟨rfl,rfl⟩) ?_)
   ·rintro t c de _ _ ⟨rfl,rfl⟩
    refine wpS_bind (wpS_get ?_)
    show wpS (model prog w) A E s (match if (pendingOf de).size > 1 then (pendingOf de)[(pendingOf de).size-2]? else none with | _=>_) _ de
    rw [if_neg (by rw [hB.pend];show ¬ 1 > 1;omega)]
    exact wpS_pure ⟨rfl,rfl⟩
   ·rintro c de ⟨rfl,rfl⟩
    (with_reducible conv=>arg 5;whnf)
    (try dsimp -zeta only)
    refine wpS_bind (wpS_modify ?_)
    rw [jr]
    (try dsimp -zeta only)
    refine wpS_bind (wpS_modify ?_)
    (with_reducible conv=>arg 5;whnf)
    refine wpS_pure (.inr (.inr ⟨Nat.le_refl _,n1,pw,by show (none,n1+(a0.size-n1))=(none,a0.size);rw [show n1+(a0.size-n1)=a0.size by omega],b1,by omega,⟨hB.perm,hB.kind,hB.fail,?_,fun i hi=>by omega⟩,ux,hs⟩))
    show ((pendingOf de).modify ((pendingOf de).size-1) _).push _=_
    rw [hB.pend];rfl
  ·(with_reducible conv=>arg 5;whnf)
   rw [if_pos (by show a0.size >= a0.size;exact Nat.le_refl _)]
   exact wpS_pure ⟨rfl,.inr ⟨n1,pw,b1,b2,hB,s1,s2⟩⟩
 ·rintro c ag (⟨z,_⟩ | ⟨z,_⟩ | ⟨t2,n1,pw,rfl,b1,b2,hB,s1,s2⟩)
  ·omega
  ·omega
  ·exact ⟨rfl,.inr ⟨n1,pw,b1,b2,hB,s1,s2⟩⟩
 ·rintro c ag ⟨e,xT⟩
  obtain ⟨c1,c2⟩:=c
  simp only at e
  subst e
  (with_reducible conv=>arg 5;whnf)
  (try dsimp -zeta only)
  refine wpS_bind (wpS_mono (wpS_forRange (I:=fun t c aD=>c=(none,())/\((t=0/\aD=ag)\/(DE kd κ a0 aD)))
   (Q:=fun c aD=>c=(none,())/\DE kd κ a0 aD) ?_ ?_ ⟨rfl,.inl ⟨rfl,rfl⟩⟩) ?_)
  ·rintro t c aD _ ht ⟨rfl,z⟩
   (try dsimp -zeta only)
   refine wpS_bind (wpS_get ?_)
   show wpS (model prog w) A E s (have p:=pendingOf aD;_) _ aD
   rcases z with ⟨rfl,rfl⟩ | f
   ·rcases xT with ⟨hB,hs⟩ | ⟨n1,pw,b1,b2,hB,s1,s2⟩
    ·have hp1:(pendingOf aD).size=1:=by rw [hB.pend];rfl
     (with_reducible conv=>arg 5;whnf)
     rw [if_pos (by show (pendingOf aD).size<=1;omega)]
     exact wpS_pure ⟨rfl,⟨hB.perm,hB.fail,by rw [hB.pend];rfl,fun i j bL hj=>by have:=hs i j bL hj;rwa [Nat.zero_add,Nat.zero_add] at this⟩⟩
    ·have Em:(pendingOf aD).size=2:=by rw [hB.pend];rfl
     (with_reducible conv=>arg 5;whnf)
     rw [if_neg (by show ¬ (pendingOf aD).size<=1;omega)]
     (with_reducible conv=>arg 5;whnf)
     refine wpS_bind ?_
     show wpS (model prog w) A E s (mergeAt' (if Option.any _ (if (pendingOf aD).size-2 > 0 then _ else none)=true then _ else (pendingOf aD).size-2)) _ aD
     rw [if_neg (c:=(pendingOf aD).size-2 > 0) (by omega),if_neg (by rw [Option.any_none];decide),Em]
     refine S3 C k0 hB b1 b2 s1 s2 fun de f=>?_
     rw [if_neg (by decide)]
     exact wpS_pure ⟨rfl,.inr f⟩
   ·(with_reducible conv=>arg 5;whnf)
    rw [if_pos (by show (pendingOf aD).size<=1;rw [f.one];decide)]
    exact wpS_pure ⟨rfl,f⟩
  ·rintro c aD ⟨rfl,z⟩
   rcases z with ⟨z,_⟩ | f
   ·omega
   ·exact ⟨rfl,f⟩
  ·rintro c aD ⟨rfl,f⟩
   (with_reducible conv=>arg 5;whnf)
   (try dsimp -zeta only)
   exact wpS_pure (h aD f.perm f.fail f.uz)
end
def lexLt:List Int->List Int->Bool
 |[],[] => false
 |[],_::_=>true
 |_::_,[] => false
 |x::xs,y::ys=>if x=y then lexLt xs ys else decide (x<y)
theorem Bl:∀ a,lexLt a a=false
 |[] => rfl
 |x::xs=>by unfold lexLt;rw [if_pos rfl];exact Bl xs
theorem B5:∀ a b c,lexLt a b=true->lexLt b c=true->lexLt a c=true
 |[],[],_,h,_=>by cases h
 |[],_::_,[],_,h=>by cases h
 |[],_::_,_::_,_,_=>rfl
 |_::_,[],_,h,_=>by cases h
 |_::_,_::_,[],_,h=>by cases h
 |x::xs,y::ys,z::zs,h1,h2=>by
  unfold lexLt at h1 h2 ⊢
  by_cases e1:x=y
  ·subst e1
   rw [if_pos rfl] at h1
   by_cases e2:x=z
   ·subst e2
    rw [if_pos rfl] at h2 ⊢
    exact B5 xs ys zs h1 h2
   ·rw [if_neg e2] at h2 ⊢;exact h2
  ·rw [if_neg e1] at h1
   have:=of_decide_eq_true h1
   by_cases e2:y=z
   ·subst e2
    rw [if_neg e1];exact h1
   ·rw [if_neg e2] at h2
    have:=of_decide_eq_true h2
    rw [if_neg (by omega)]
    exact decide_eq_true (by omega)
theorem B6:∀ a b c,lexLt a c=true->lexLt a b=true\/lexLt b c=true
 |[],[],c,h=>.inr h
 |[],_::_,_,_=>.inl rfl
 |_::_,_,[],h=>by cases h
 |_::_,[],_::_,_=>.inr rfl
 |x::xs,y::ys,z::zs,h=>by
  unfold lexLt at h ⊢
  by_cases e1:x=y
  ·subst e1
   rw [if_pos rfl]
   by_cases e2:x=z
   ·subst e2
    rw [if_pos rfl] at h ⊢
    exact B6 xs ys zs h
   ·rw [if_neg e2] at h ⊢;exact .inr h
  ·rw [if_neg e1]
   by_cases e2:x=z
   ·subst e2
    rw [if_neg (fun z=>e1 z.symm)]
    rcases Int.lt_or_le x y with q | q
    ·exact .inl (decide_eq_true q)
    ·exact .inr (decide_eq_true (by omega))
   ·rw [if_neg e2] at h
    have:=of_decide_eq_true h
    rcases Int.lt_or_le x y with q | q
    ·exact .inl (decide_eq_true q)
    ·refine .inr ?_
     rw [if_neg (by omega)]
     exact decide_eq_true (by omega)
theorem Bm:∀ a b,lexLt a b=false->lexLt b a=false->a=b
 |[],[],_,_=>rfl
 |[],_::_,h,_=>by cases h
 |_::_,[],_,h=>by cases h
 |x::xs,y::ys,h1,h2=>by
  unfold lexLt at h1 h2
  by_cases e1:x=y
  ·subst e1
   rw [if_pos rfl] at h1 h2
   rw [Bm xs ys h1 h2]
  ·rw [if_neg e1] at h1
   rw [if_neg (fun z=>e1 z.symm)] at h2
   have:=of_decide_eq_false h1
   have:=of_decide_eq_false h2
   omega
def intsOf:List Value->Option (List Int)
 |[] => some []
 | .int n _::r=>(intsOf r).map (n :: ·)
 |_::_=>none
def eV (h:Heap):Value->Option (List Int)
 | .ref t=>match h.get? t with
  |some ⟨.type "tuple",_,.seq vs _,_⟩=>intsOf vs.toList
  |_=>none
 |_=>none
def jK (h:Heap):KeyKind:={ α:=List Int,blt:=lexLt,irrefl:=Bl,trans:=B5,negTrans:=B6,total:=Bm,keyOf:=eV h,dflt:=[] }
theorem ints_of {vs:List Value}{ns:List Int}(h:IntsAre vs ns):intsOf vs=some ns:=by
 induction h with
 |nil=>rfl
 |cons n t _ ih=>show (intsOf _).map _=_;rw [ih];rfl
theorem KY:∀ {vs:List Value} {ns:List Int},intsOf vs=some ns->IntsAre vs ns
 |[],_,h=>by cases h;exact .nil
 | .int n t::r,_,h=>by
  have h':(intsOf r).map (n :: ·)=some _:=h
  cases e:intsOf r with
  |none=>rw [e] at h';cases h'
  |some ms=>rw [e] at h';cases h';exact .cons n t (KY e)
 | .none::_,_,h=>by cases h
 | .ellipsis::_,_,h=>by cases h
 | .notImplemented::_,_,h=>by cases h
 | .bool _::_,_,h=>by cases h
 | .float _ _::_,_,h=>by cases h
 | .str _ _::_,_,h=>by cases h
 | .bytes _ _::_,_,h=>by cases h
 | .type _::_,_,h=>by cases h
 | .builtin _::_,_,h=>by cases h
 | .ref _::_,_,h=>by cases h
theorem nu {h:Heap}{t:Addr}{ws:List Value}{ns:List Int}(p:IsTup h t ws.toArray)(q:IntsAre ws ns):eV h (.ref t)=some ns:=by
 obtain ⟨⟨c,d,dt,sl⟩,ho,hc,n,hd⟩:=p
 simp only at hc hd
 subst hc hd
 show (match h.get? t with | some ⟨.type "tuple",_,.seq vs _,_⟩=>intsOf vs.toList | _=>none)=_
 rw [ho]
 exact ints_of q
theorem v9 {h:Heap}{v:Value}{ns:List Int}(e:eV h v=some ns):∃ t ws,v=.ref t/\IsTup h t ws.toArray/\IntsAre ws ns:=by
 unfold eV at e
 split at e
 next t =>
  split at e
  next o d vs n sl ho=>exact ⟨t,vs.toList,rfl,⟨_,ho,rfl,n,by rw [Array.toArray_toList]⟩,KY e⟩
  next=>cases e
 next=>cases e
section
variable {prog:Program}{w:World}{A:Around}{E:Value->Shared->Prop}{s:Shared}
theorem Ak {t:Addr}{ws:Array Value}{Q:Array Value->Shared->Prop}(p:IsTup s.heap t ws)(h:Q ws s):wpAny (model prog w) A (Builtin.List.listItems (.ref t)) Q E s:=by
 obtain ⟨o,ho,hc,n,hd⟩:=p
 exact listItems_at ho hd h
theorem W7 {a b:Int}{t u:Tok}{Q:Bool->Shared->Prop}(h:Q (decide (a<b)) s):wpAny (model prog w) A (oneLt' false (.int a t) (.int b u)) Q E s:=by
 rw [oneLt'_eq]
 simp only [Bool.false_eq_true,if_false]
 refine wpAny_bind ?_
 exact wpAny_lt_int (wpAny_truthy_bool h)
theorem W8 {a b:Int}{t u:Tok}{c:Bool}{Q:Bool->Shared->Prop}(h:Q (decide (a<b)) s):wpAny (model prog w) A (oneLt' c (.int a t) (.int b u)) Q E s:=by
 cases c with
 |true=>exact oneLt_int h
 |false=>exact W7 h
theorem KZ {g:((Value×Value)×Nat)->(Option Bool×Unit)->Sem (ForInStep (Option Bool×Unit))}(hg:∀ (m n:Int) (t t':Tok) (i:Nat) (Q:ForInStep (Option Bool×Unit)->Shared->Prop),(m ≠ n->Q (.done (some (decide (m<n)),())) s)->(m=n->Q (.yield (none,())) s)->wpAny (model prog w) A (g ((.int m t,.int n t'),i) (none,())) Q E s) :
  ∀ {us vs:List Value} {ms ns:List Int},IntsAre us ms->IntsAre vs ns->∀ (k:Nat) (Q:Option Bool×Unit->Shared->Prop),(lexLt ms ns=decide (us.length<vs.length)->Q (none,()) s)->Q (some (lexLt ms ns),()) s ->
   wpAny (model prog w) A (forIn ((us.zip vs).zipIdx k) ((none,()):Option Bool×Unit) g) Q E s
 |[],[],_,_,.nil,.nil,k,Q,h,_=>wpAny_pure (h rfl)
 |[],_::_,_,_,.nil,.cons n t hr,k,Q,h,_=>wpAny_pure (h (by rw [decide_eq_true (by simp)];rfl))
 |_::_,[],_,_,.cons n t hr,.nil,k,Q,h,_=>wpAny_pure (h (by rw [decide_eq_false (by simp)];rfl))
 |_::us,_::vs,_,_,.cons m t hu,.cons n t' hv,k,Q,h,h2=>by
  rw [List.zip_cons_cons,List.zipIdx_cons,List.forIn_cons]
  unfold lexLt at h h2
  refine wpAny_bind (hg m n t t' k _ (fun e=>?_) (fun e=>?_))
  ·rw [if_neg e] at h2
   exact wpAny_pure h2
  ·rw [if_pos e] at h h2
   exact KZ hg hu hv (k+1) Q (fun z=>h (by rw [z];simp)) h2
theorem Vo:iM prog w A E s (tuples' true) (jK s.heap) where
 lt st x y Q hk k1 k2 h:=by
  obtain ⟨ms,e1⟩:=Option.isSome_iff_exists.mp k1
  obtain ⟨ns,e2⟩:=Option.isSome_iff_exists.mp k2
  have f1:kf (jK s.heap) x=ms:=by unfold kf;rw [e1];rfl
  have f2:kf (jK s.heap) y=ns:=by unfold kf;rw [e2];rfl
  rw [f1,f2] at h
  obtain ⟨t,us,ex,px,ix⟩:=v9 e1
  obtain ⟨t',vs,ey,py,iy⟩:=v9 e2
  rw [lt'_eq]
  refine wpS_bind (wpS_get ?_)
  rw [hk,ex,ey]
  refine wpS_bind (wpS_lift (wpAny_attempt ?_))
  refine wpAny_bind (Ak px (wpAny_bind (Ak py ?_)))
  refine wpAny_bind (KZ (fun m n t t' i Q q1 q2=>?_) ix iy 0 _ (fun e=>?_) ?_)
  ·refine wpAny_bind (wpAny_eqBool_int ?_)
   by_cases e:m=n
   ·rw [show (m==n)=true by simpa using e]
    exact wpAny_pure (q2 e)
   ·rw [show (m==n)=false by simpa using e]
    exact wpAny_bind (W8 (wpAny_pure (q1 e)))
  ·show wpAny _ _ (pure (decide (us.toArray.size<vs.toArray.size))) _ _ _
   refine wpAny_pure ⟨rfl,wpS_pure ?_⟩
   rw [List.size_toArray,List.size_toArray,<- e]
   exact h
  ·exact wpAny_pure ⟨rfl,wpS_pure h⟩
theorem Mp:∀ {vs:List Value},(∀ v ∈ vs,∃ n ns,eV s.heap v=some (n::ns))->∀ Q:List (Option Value)->Shared->Prop,(∀ fs:List (Int×Tok),fs.length=vs.length->Q (fs.map fun p=>some (.int p.1 p.2)) s) ->
  wpAny (model prog w) A (vs.mapM firstOfTuple') Q E s
 |[],_,Q,h=>by rw [List.mapM_nil];exact wpAny_pure (h [] rfl)
 |v::vs,hv,Q,h=>by
  obtain ⟨n,ns,e⟩:=hv v (.head _)
  obtain ⟨t,ws,rfl,pt,it⟩:=v9 e
  cases it with
  |cons _ tk it =>
   rw [List.mapM_cons]
   refine wpAny_bind ?_
   obtain ⟨o,ho,hc,m,hd⟩:=id pt
   refine wpAny_bind (wpAny_typeOf (T := "tuple") ⟨o,ho,hc⟩ ?_)
   rw [if_neg (by decide)]
   refine wpAny_bind (Ak pt (wpAny_pure ?_))
   refine wpAny_bind (Mp (fun v ur=>hv v (.tail _ ur)) _ fun fs hf=>wpAny_pure ?_)
   exact h ((n,tk)::fs) (by rw [List.length_cons,List.length_cons,hf])
theorem Jm:∀ (fs:List (Int×Tok)),(fs.map fun p=>Value.int p.1 p.2).mapM typeOf=pure (fs.map fun _=>Value.type "int")
 |[] => by simp
 |p::fs=>by
  rw [List.map_cons,List.mapM_cons,Jm fs]
  show (pure (Value.type "int") >>= fun b=>pure _ >>= fun bs=>pure (b::bs))=_
  simp
theorem Uv {vs:List Value}{Q:SortKind->Shared->Prop}(hv:∀ v ∈ vs,∃ n ns,eV s.heap v=some (n::ns))(ne:vs ≠ [])(h:Q (tuples' true) s):wpAny (model prog w) A (keyKind' vs.toArray) Q E s:=by
 rw [keyKind'_eq,List.mapM_toArray]
 refine wpAny_bind ?_
 rw [map_eq_pure_bind]
 refine wpAny_bind (Mp hv _ fun fs hf=>wpAny_pure ?_)
 rw [if_pos (by simp)]
 refine wpAny_bind (wpAny_rule ?_)
 have e1:((fs.map fun p=>some (Value.int p.1 p.2)).toArray.filterMap id)=(fs.map fun p=>Value.int p.1 p.2).toArray:=by
  simp [List.filterMap_map]
 rw [e1,oneTypeOnly'_eq,List.mapM_toArray,Jm]
 simp only [map_pure,pure_bind]
 have h0:(fs.map fun _=>Value.type "int").toArray[0]?=some (Value.type "int"):=by
  cases fs with
  |nil =>
   cases vs with
   |nil=>exact absurd rfl ne
   |cons _ _=>cases hf
  |cons p fs=>simp
 have Du:((fs.map fun _=>Value.type "int").toArray.all fun x=>x==Value.type "int")=true:=by
  simp only [List.all_toArray,List.all_map,List.all_eq_true]
  intro _ _
  rfl
 rw [h0]
 simp only [Du,if_true,pure_bind]
 exact wpAny_pure h
end
def qD (h:Heap)(v:Value):List Int:=(eV h v).getD []
def tS (h:Heap)(l:List Value):Prop:=l.Pairwise fun x y=>lexLt (qD h y) (qD h x)=false
section
variable {prog:Program}{w:World}{A:Around}{E:Value->Shared->Prop}{s:Shared}
theorem JU {h h':Heap}{v:Value}{ns:List Int}(e:eV h v=some ns)(k:∀ t o,v=.ref t->h.get? t=some o->o.cls=.type "tuple" -> h'.get? t=some o):eV h' v=some ns:=by
 obtain ⟨t,ws,rfl,⟨o,ho,hc,n,hd⟩,it⟩:=v9 e
 exact nu ⟨o,k t o rfl ho hc,hc,n,hd⟩ it
theorem mem_zip_self {α:Type}:∀ {l:List α} {p : α×α},p ∈ l.zip l->p.1=p.2/\p.1 ∈ l
 |x::l,p,h=>by
  rw [List.zip_cons_cons] at h
  rcases List.mem_cons.mp h with rfl | z
  ·exact ⟨rfl,.head _⟩
  ·have:=mem_zip_self z
   exact ⟨this.1,.tail _ this.2⟩
theorem K0 {α:Type}:∀ l:List α,(l.zip l).map Prod.snd=l
 |[] => rfl
 |x::l=>by rw [List.zip_cons_cons,List.map_cons,K0 l]
theorem Jn {vs:List Value}{xs:Array Keyed}{h:Heap}(hp:xs.Perm (pairsOf vs))(hs:∀ i j,i<=j->j<(pairsOf vs).size->(jK h).kle (kA (jK h) xs i) (kA (jK h) xs j)) :
  (xs.map (·.2)).toList.Perm vs/\tS h (xs.map (·.2)).toList:=by
 have hl:xs.toList.Perm (vs.zip vs):=by
  have:=Array.perm_iff_toList_perm.mp hp
  unfold pairsOf at this
  rwa [Array.toList_zip] at this
 refine ⟨?_,?_⟩
 ·rw [Array.toList_map]
  have:=hl.map Prod.snd
  rwa [K0] at this
 ·unfold tS
  rw [Array.toList_map,List.pairwise_map,List.pairwise_iff_getElem]
  intro i j hi hj bL
  have uv:j<(pairsOf vs).size:=by rw [<- hp.size_eq];rw [Array.length_toList] at hj;exact hj
  have:=hs i j (by omega) uv
  have gt:∀ c (hc:c<xs.toList.length),kA (jK h) xs c=qD h (xs.toList[c]).2:=fun c hc=>by
   have e:xs[c]?=some (xs.toList[c]):=by rw [<- Array.getElem?_toList,List.getElem?_eq_getElem hc]
   rw [bI e]
   have:=(mem_zip_self (hl.mem_iff.mp (List.getElem_mem hc))).1
   unfold kf qD
   rw [<- this]
   rfl
  rw [gt i hi,gt j hj] at this
  exact this
theorem RO {a:Addr}{vs:List Value}{n:Nat}{P:Fin->Shared->Prop}(ho:s.heap.get? a=some (seqObj "list" vs.toArray n))(hv:∀ v ∈ vs,∃ n ns,eV s.heap v=some (n::ns))(Oe:vs.length<128)(h:∀ out:Array Value,out.toList.Perm vs->tS s.heap out.toList->P (.done (.ret .none)) { s with heap:=sortedHeap s.heap a vs out }):wpAny (model prog w) A (Builtin.«list.sort» ⟨[.ref a],[]⟩) P E s:=by
 rw [list_sort_plain]
 have ha:a<s.heap.objs.size:=Heap.lt_size ho
 refine wpAny_bind (listItems_at ho rfl (wpAny_bind (listUpdate_at ho rfl ?_)))
 obtain ⟨e1,qU⟩:∃ e1,(s.heap.update a (Obj.mapSeq fun _=>#[])).get? a=some (seqObj "list" #[] e1):=⟨_,get?_update_seq ho (fun _=>#[])⟩
 refine wpAny_bind (seqEpoch_at qU rfl (wpAny_bind (wpAny_newTuple (wpAny_bind (wpAny_newList (wpAny_holding ?_))))))
 obtain ⟨hB,eB⟩:∃ hB,hB=((s.heap.update a (Obj.mapSeq fun _=>#[])).push (seqObj "tuple" vs.toArray 0)).push (seqObj "list" #[] 0):=⟨_,rfl⟩
 have fV:hB.get? a=some (seqObj "list" #[] e1):=by
  rw [eB,Heap.get?_push_ne _ _ _ (by rw [size_push',Heap.size_update];exact Nat.ne_of_lt (Nat.lt_succ_of_lt ha)),Heap.get?_push_ne _ _ _ (by rw [Heap.size_update];exact Nat.ne_of_lt ha)]
  exact qU
 have keep:∀ t o,s.heap.get? t=some o->t ≠ a->hB.get? t=some o:=fun t o e ne=>by
  have lt:=Heap.lt_size e
  rw [eB,Heap.get?_push_ne _ _ _ (by rw [size_push',Heap.size_update];exact Nat.ne_of_lt (Nat.lt_succ_of_lt lt)),Heap.get?_push_ne _ _ _ (by rw [Heap.size_update];exact Nat.ne_of_lt lt),(Heap.SameBut.update ..).2 t ne]
  exact e
 have keys:∀ v ns,eV s.heap v=some ns->eV hB v=some ns:=fun v ns e=>JU e fun t o _ ht hc=>keep t o ht fun z=>by
  rw [z,ho] at ht
  cases ht
  exact absurd (Value.type.inj hc) (by decide)
 have fin:∀ out:Array Value,out.toList.Perm vs->tS hB out.toList->P (.done (.ret .none)) { s with heap:=sortedHeap s.heap a vs out }:=fun out hp hs=>by
  refine h out hp (hs.imp_of_mem fun {x y} hx hy z=>?_)
  obtain ⟨n1,ns1,q1⟩:=hv x (hp.mem_iff.mp hx)
  obtain ⟨n2,ns2,q2⟩:=hv y (hp.mem_iff.mp hy)
  unfold qD at z ⊢
  rw [keys _ _ q1,keys _ _ q2] at z
  rw [q1,q2]
  exact z
 have last:∀ out:Array Value,out.size<=1000->sortedHeap s.heap a vs out=hB.update a (Obj.mapSeq fun _=>out):=fun out _=>by rw [eB];rfl
 show wpAny (model prog w) A _ P E { s with heap:=((s.heap.update a (Obj.mapSeq fun _=>#[])).push (seqObj "tuple" vs.toArray 0)).push (seqObj "list" #[] 0) }
 rw [<- eB]
 have hsz:vs.toArray.size=vs.length:=by simp
 have line:sizeLine=16777216:=sizeLine_eq
 dsimp only
 by_cases h2:vs.toArray.size<2
 ·rw [if_pos h2,if_pos h2]
  refine wpAny_bind (wpAny_pure ?_)
  rw [StateT.run_pure]
  refine wpAny_bind (wpAny_pure ?_)
  dsimp only
  have pp:(pairsOf vs).Perm (pairsOf vs):=Array.Perm.refl _
  obtain ⟨f1,f2⟩:=Jn (h:=hB) pp fun i j bL hj=>by
   rw [pairsOf_size] at hj
   have:i=j:=by omega
   subst this
   exact KeyOrd.kle_refl _
  have sz:((pairsOf vs).map (·.2)).size=vs.length:=by rw [Array.size_map,pairsOf_size]
  refine wpAny_bind (seqEpoch_at (s:={ s with heap:=hB }) fV rfl ?_)
  refine wpAny_bind (listUpdate_at (s:={ s with heap:=hB }) fV rfl ?_ (hsz2:=by show ((pairsOf vs).map (·.2)).size<=_;omega))
  simp only [bne_self_eq_false,Bool.false_eq_true,if_false]
  have:=fin _ f1 f2
  rw [last _ (by omega)] at this
  exact wpAny_pure this
 ·rw [if_neg h2,if_neg h2]
  refine wpAny_bind (Uv (s:={ s with heap:=hB }) (fun v ur=>?_) (fun z=>by rw [z] at h2;simp at h2) ?_)
  ·obtain ⟨n,ns,e⟩:=hv v ur
   exact ⟨n,ns,keys _ _ e⟩
  have k0:Kd (jK hB) (pairsOf vs).toList:=fun x hx=>by
   unfold pairsOf at hx
   rw [Array.toList_zip] at hx
   obtain ⟨n,ns,e⟩:=hv x.1 (mem_zip_self hx).2
   show (eV hB x.1).isSome=true
   rw [keys _ _ e];rfl
  have run:=Vn (prog:=prog) (w:=w) (A:=A) (E:=E) (s:={ s with heap:=hB }) (a0:=pairsOf vs) Vo k0 (st:=SortSt.mk' (tuples' true) (pairsOf vs) #[] 7 none) ⟨Array.Perm.refl _,rfl,rfl,rfl,fun _ z=>absurd z (Nat.not_lt_zero _)⟩
   (Q:=fun _ ag=>(arrOf ag).Perm (pairsOf vs)/\failedOf ag=none/\∀ i j,i<=j->j<(pairsOf vs).size->(jK hB).kle (kA (jK hB) (arrOf ag) i) (kA (jK hB) (arrOf ag) j)) (by rw [pairsOf_size];omega) (by rw [pairsOf_size];omega) fun ag p1 p2 p3=>⟨p1,p2,p3⟩
  refine wpAny_bind (wpAny_mono run ?_ fun _ _ e=>e)
  rintro ⟨⟨⟩,ag⟩ s' ⟨rfl,hp,hf,hs⟩
  dsimp only
  obtain ⟨f1,f2⟩:=Jn hp hs
  have sz:((arrOf ag).map (·.2)).size=vs.length:=by rw [Array.size_map,hp.size_eq,pairsOf_size]
  refine wpAny_bind (seqEpoch_at (s:={ s with heap:=hB }) fV rfl ?_)
  refine wpAny_bind (listUpdate_at (s:={ s with heap:=hB }) fV rfl ?_ (hsz2:=by show ((arrOf ag).map (·.2)).size<=_;omega))
  rw [hf]
  simp only [bne_self_eq_false,Bool.false_eq_true,if_false]
  have:=fin _ f1 f2
  rw [last _ (by show ((arrOf ag).map (·.2)).size<=1000;omega)] at this
  exact wpAny_pure this
end
def ik (h:Heap)(d:Addr)(ks:List Addr)(ep:Nat):Prop:=∃ o es,h.get? d=some o/\o.ExactDict/\o.data=.dict es ep/\es.toList.map (·.key)=ks.map Value.ref
theorem ik.at' {h h':Heap}{d:Addr}{ks:List Addr}{ep:Nat}(x:ik h d ks ep)(e:∀ o,h.get? d=some o->h'.get? d=some o):ik h' d ks ep:=let ⟨o,es,ho,r⟩:=x;⟨o,es,e o ho,r⟩
theorem ik.lt {h:Heap}{d:Addr}{ks:List Addr}{ep:Nat}(x:ik h d ks ep):d<h.objs.size:=let ⟨_,_,ho,_⟩:=x;Heap.lt_size ho
theorem ik.ty {s:Shared}{d:Addr}{ks:List Addr}{ep:Nat}(x:ik s.heap d ks ep):s.TypeIs (.ref d) "dict" := let ⟨o,_,ho,hc,_⟩:=x;⟨o,ho,hc.1⟩
theorem AR {es:Array DictEntry}{ks:List Addr}(h:es.toList.map (·.key)=ks.map Value.ref):es.size=ks.length:=by
 have:=congrArg List.length h
 rwa [List.length_map,List.length_map,Array.length_toList] at this
theorem W9 {es:Array DictEntry}{ks:List Addr}(h:es.toList.map (·.key)=ks.map Value.ref){i:Nat}{a:Addr}(ha:ks[i]?=some a)(hi:i<es.size):es[i].key=.ref a:=by
 have:=congrArg (fun l=>l[i]?) h
 simp only [List.getElem?_map,ha,Array.getElem?_toList,Array.getElem?_eq_getElem hi,Option.map_some] at this
 exact Option.some.inj this
section
variable {prog:Program}{w:World}{A:Around}{E:Value->Shared->Prop}{s:Shared}{d it:Addr}{ks:List Addr}{ep i:Nat}
theorem Vp {Q:Value->Shared->Prop}(lo:(d==sysModules)=false)(hm:ik s.heap d ks ep)(hQ:Q (.ref s.heap.objs.size) { s with heap:=s.heap.push { cls:=.type "dict_keyiterator",data:=.fields #[.ref d,.int 0 0,.int ks.length 0,.int ep 0] } }) :
  wpAny (model prog w) A (pyIter (.ref d)) Q E s:=by
 obtain ⟨o,es,ho,hc,Og,hk⟩:=id hm
 have hT:=hm.ty
 have hsz:=AR hk
 refine wpAny_pyIter_slot hT F.slot_dict_iter (wpAny_call_entry F.slot_dict_iter hT F.entry_dict_iter ?_ (F.args_dict_iter_1 _))
 unfold Builtin.«dict.__iter__»
 refine wpAny_bind ?_
 unfold Builtin.Dict.dictSlotNone
 refine wpAny_bind (wpAny_notOrdered_dict hT ?_);show wpAny _ _ (pure (Value.ref d)) _ _ s
 refine wpAny_pure ?_
 show wpAny _ _ (Builtin.Dict.showsAll d >>= _) _ _ s
 unfold Builtin.Dict.showsAll
 rw [if_neg (by rw [lo];exact Bool.false_ne_true)]
 refine wpAny_bind (wpAny_pure (wpAny_bind (wpAny_dictEntries ho Og (wpAny_bind (wpAny_dictEpoch ho Og ?_)))))
 refine wpAny_bind (wpAny_newObj_type (wpAny_pure ⟨_,rfl, "dict_keyiterator",_,⟨_,Heap.get?_push_size _ rfl,rfl⟩,F.slot_dict_keyiterator_next.lookup,?_⟩))
 simpa [rawInt,hsz] using hQ
theorem Vq {a:Addr}{Q:Option Value->Shared->Prop}(hit:s.heap.IsKeyIter it d i ks.length ep)(hm:ik s.heap d ks ep)(hx:ks[i]?=some a)(hQ:∀ h',h'.IsKeyIter it d (i+1) ks.length ep->Heap.SameBut it s.heap h'->Q (some (.ref a)) { s with heap:=h' }):wpAny (model prog w) A (pyNext (.ref it)) Q E s:=by
 obtain ⟨o,ho,hc,hd⟩:=id hit
 obtain ⟨od,es,uC,eC,om,hk⟩:=id hm
 have hsz:=AR hk
 have aZ:i<ks.length:=(List.getElem?_eq_some_iff.mp hx).1
 have Oh:i<es.size:=by rw [hsz];exact aZ
 have Dq:=W9 hk hx Oh
 unfold pyNext
 refine wpAny_bind (wpAny_attempt (wpAny_callSpecial?_slot (name:=Str.ofString "__next__") hit.typeIs F.slot_dict_keyiterator_next (wpAny_call_entry F.slot_dict_keyiterator_next hit.typeIs F.entry_dict_keyiterator_next ?_ (F.args_dict_keyiterator_next_1 _))))
 refine wpAny_bind (wpAny_pure (wpAny_bind (wpAny_bind ?_)))
 first | refine wpAny_bind (wpAny_typeNameOfWhole_keyiter hit.typeIs (wpAny_pure (wpAny_bind (wpAny_fieldsOf ho hd ?_)))) | refine wpAny_bind (wpAny_typeNameOf_keyiter hit.typeIs (wpAny_pure (wpAny_bind (wpAny_fieldsOf ho hd ?_))))
 have own:Builtin.Dict_items.ownsTuple "dict_keyiterator" = false:=by decide
 simp only [own,Bool.false_eq_true,if_false]
 show wpAny _ _ (if (Value.ref d==Value.none)=true then _ else _) _ _ s;rw [if_neg (show ¬ ((Value.ref d==Value.none)=true) from Bool.false_ne_true)]
 refine wpAny_bind (wpAny_pure (wpAny_bind (wpAny_dictEntries uC om ?_)));rw [if_neg (by rw [hsz];simp)]
 refine wpAny_bind (wpAny_pure (wpAny_bind (wpAny_dictEpoch uC om ?_)));rw [if_neg (by simp)]
 refine wpAny_pure ?_
 simp only [show ¬ ((i:Int)<0) from by omega,if_false,Int.toNat_natCast,Array.getElem?_eq_getElem Oh]
 refine wpAny_bind ?_
 first | refine wpAny_bind (wpAny_typeNameOfWhole_keyiter hit.typeIs (wpAny_pure (wpAny_bind (wpAny_isOneOf_keyiter hit.typeIs ?_)))) | refine wpAny_bind (wpAny_typeNameOf_keyiter hit.typeIs (wpAny_pure (wpAny_bind (wpAny_isOneOf_keyiter hit.typeIs ?_))))
 show wpAny _ _ (setField (.ref it) 1 (rawInt ((i:Int)+1)) >>= _) _ _ s;refine wpAny_bind (wpAny_setField ho hd (by simp) ?_)
 have wZ:(s.heap.update it (Obj.mapFields (·.setIfInBounds 1 (rawInt ((i:Int)+1))))).IsKeyIter it d (i+1) ks.length ep:=⟨_,Heap.get?_update_self _ ho (Obj.isFreed_of_fields (Obj.data_mapFields hd _)),(Obj.cls_mapFields ..).trans hc,by rw [Obj.data_mapFields hd];simp [rawInt]⟩
 refine wpAny_bind (wpAny_holding (wpAny_bind (wpAny_isOneOf_keyiter (s:={ s with heap:=s.heap.update it (Obj.mapFields (·.setIfInBounds 1 (rawInt ((i:Int)+1)))) }) wZ.typeIs ?_)))
 show wpAny _ _ (pure es[i].key) _ _ _
 rw [Dq]
 exact wpAny_pure (wpAny_pure ⟨_,rfl,wpAny_pure (hQ _ wZ (Heap.SameBut.update ..))⟩)
theorem Xa {Q:Option Value->Shared->Prop}(hh:A.handled=none)(hit:s.heap.IsKeyIter it d i ks.length ep)(hm:ik s.heap d ks ep)(hx:ks[i]?=none)(hQ:∀ h',Heap.ExtBut it s.heap h'->Q none { s with heap:=h' }):wpAny (model prog w) A (pyNext (.ref it)) Q E s:=by
 obtain ⟨o,ho,hc,hd⟩:=id hit
 obtain ⟨od,es,uC,eC,om,hk⟩:=id hm
 have hsz:=AR hk
 have fH:es.size<=i:=by rw [hsz];simpa using hx
 unfold pyNext
 refine wpAny_bind (wpAny_attempt (wpAny_callSpecial?_slot (name:=Str.ofString "__next__") hit.typeIs F.slot_dict_keyiterator_next (wpAny_call_entry F.slot_dict_keyiterator_next hit.typeIs F.entry_dict_keyiterator_next ?_ (F.args_dict_keyiterator_next_1 _))))
 refine wpAny_bind (wpAny_pure (wpAny_bind (wpAny_bind ?_)))
 first | refine wpAny_bind (wpAny_typeNameOfWhole_keyiter hit.typeIs (wpAny_pure (wpAny_bind (wpAny_fieldsOf ho hd ?_)))) | refine wpAny_bind (wpAny_typeNameOf_keyiter hit.typeIs (wpAny_pure (wpAny_bind (wpAny_fieldsOf ho hd ?_))))
 have own:Builtin.Dict_items.ownsTuple "dict_keyiterator" = false:=by decide
 simp only [own,Bool.false_eq_true,if_false]
 show wpAny _ _ (if (Value.ref d==Value.none)=true then _ else _) _ _ s;rw [if_neg (show ¬ ((Value.ref d==Value.none)=true) from Bool.false_ne_true)]
 refine wpAny_bind (wpAny_pure (wpAny_bind (wpAny_dictEntries uC om ?_)));rw [if_neg (by rw [hsz];simp)]
 refine wpAny_bind (wpAny_pure (wpAny_bind (wpAny_dictEpoch uC om ?_)));rw [if_neg (by simp)]
 refine wpAny_pure ?_
 simp only [show ¬ ((i:Int)<0) from by omega,if_false,Int.toNat_natCast,Array.getElem?_eq_none fH]
 refine wpAny_bind ?_
 first | refine wpAny_bind (wpAny_typeNameOfWhole_keyiter hit.typeIs (wpAny_pure ?_)) | refine wpAny_bind (wpAny_typeNameOf_keyiter hit.typeIs (wpAny_pure ?_))
 show wpAny _ _ (setField (.ref it) 0 .none >>= _) _ _ s;refine wpAny_bind (wpAny_setField ho hd (by simp) ?_)
 show wpAny _ _ (newExc (.type "StopIteration") [] >>= _) _ _ _;refine wpAny_bind ?_
 simp only [newExc,newTuple]
 refine wpAny_bind (wpAny_newObj_type (wpAny_bind (m:=firstArgMember _ _) (wpAny_of_eq (a:=Value.none) (by first | rfl | (simp only [firstArgMember];rfl)) (wpAny_newObj_type ?_ (by size_fits)))) (by size_fits))
 simp only [raiseNew]
 refine wpAny_bind (wpAny_handled ?_);rw [show A.in1.handled=none from hh]
 refine wpAny_bind (wpAny_pure (wpAny_throw ?_));refine wpAny_bind (wpAny_isInstance (T := "StopIteration") (b:=true) ⟨_,Heap.get?_push_size _ rfl,rfl⟩ isSubtype_stop ?_)
 exact wpAny_pure (hQ _ (((Heap.SameBut.update ..).extBut.push _).push _))
theorem Uw (hh:A.handled=none)(I:Addr)(ui:d ≠ I):Walks prog w A I [I,d] [I] ks.length (fun i v=>∃ a,ks[i]?=some a/\v=.ref a) (fun i h=>h.IsKeyIter I d i ks.length ep/\ik h d ks ep) where
 sub:=fun b hb=>by simp at hb;simp [hb]
 frame:=fun _ _ _ st hk=>⟨st.1.at fun o e=>hk I (by simp) o e,st.2.at' fun o e=>hk d (by simp) o e⟩
 item:=fun i s Q E hi st hQ=>by
  obtain ⟨a,hx⟩:∃ a,ks[i]?=some a:=⟨ks[i],by simp [hi]⟩
  refine Vq st.1 st.2 hx fun h' wZ lA=>?_
  exact hQ _ h' s.toks ⟨a,hx,rfl⟩ ⟨wZ,st.2.at' fun o e=>lA.extBut d o ui e⟩ fun b o hb e=>lA.extBut b o (fun h=>hb (by simp [h])) e
 done:=fun s Q E st hQ=>Xa hh st.1 st.2 (by simp) fun h' lr=>hQ h' s.toks fun b o hb e=>lr b o (fun h=>hb (by simp [h])) e
 self:=fun _ _ _ _ st hQ=>wpAny_pyIter_keyiter st.1 hQ
theorem Xb (lo:(d==sysModules)=false):PySem.W.KdlSrc prog w "dict" d d ks.length (fun i v=>∃ a,ks[i]?=some a/\v=.ref a) (fun h=>ik h d ks ep) where
 type:=fun _ hm=>hm.ty
 there:=fun _ hm=>⟨hm.lt,hm.lt⟩
 keep:=fun _ _ hm hk=>hm.at' fun o e=>hk d (.inl rfl) o e
 notList:=by decide
 notTuple:=by decide
 hint:=fun _ _ _ _ hm hq=>PySem.W.kdl_hint_dict hm.ty hq
 iter:=fun A s hh hm=>⟨_,_,(fun _ _ hq=>Vp lo hm hq),Uw hh _ (Nat.ne_of_lt hm.lt),⟨⟨_,Heap.get?_push_size _ rfl,rfl,rfl⟩,hm.at' fun o e=>Heap.get?_push_of_some _ e⟩⟩
end
end So
namespace L2
open PySem PySem.Spec PyProof.Rows
def addrOf:Value->Addr
 | .ref a=>a
 |_=>0
theorem Ux {l:List Value}{ks:List Addr}(h:l.Perm (ks.map Value.ref)):∃ as:List Addr,as.Perm ks/\l=as.map Value.ref:=by
 refine ⟨l.map addrOf,?_,?_⟩
 ·have:=h.map addrOf
  rw [List.map_map] at this
  rwa [show ks.map (addrOf ∘ Value.ref)=ks from (List.map_congr_left (g:=id) fun _ _=>rfl).trans (List.map_id ks)] at this
 ·rw [List.map_map]
  refine ((List.map_congr_left (g:=id) fun v hv=>?_).trans (List.map_id l)).symm
  obtain ⟨a,_,rfl⟩:=List.mem_map.mp (h.mem_iff.mp hv)
  rfl
theorem Jo:∀ as:List Addr,Vals (as.map V.ref) (as.map Value.ref)
 |[] => .nil
 |a::as=>.cons rfl (Jo as)
def Mq:List V->Hp->VK->Prop:=fun xs H Q=>∃ (p:Addr) (aj:List (List Key×V)) (ds:List (List Int)),xs=[.ref p]/\H p=some (.dT aj)/\aj.map (·.1)=ds.map (fun d=>d.map Sum.inl)/\(∀ d ∈ ds,d ≠ [])/\ds.length<128 /\
  ∀ (l:Addr) (ps:List (Addr×List Int)),H l=none->(∀ q ∈ ps,H q.1=some (.tup (q.2.map V.int)))->(ps.map (·.2)).Perm ds->(ps.map (·.2)).Pairwise (fun x y=>So.lexLt y x=false)->Q (.ref l) (upd H l (.lst (ps.map fun q=>.ref q.1)))
section
variable {X:Cx}
theorem SA (hc:X.calm=true):fB X (.builtin "sorted") Mq:=by
 intro pins s σ H xs us Q I r h
 obtain ⟨p,aj,ds,rfl,hp,hks,ui,hz,q⟩:=h
 obtain ⟨u,rfl,rx⟩:=vals1 r
 cases rx
 obtain ⟨_,hS,xs,pr,o,es,ep,ho,eC,om,he,nd⟩:=(show bQ X.prog X.w H s.heap p (.dT aj) from I.av p _ hp)
 have big : 1000<sizeLine:=by decide
 have keys:∀ {aj:List (List Key×V)} {xs:List (List Key×Addr×Value)} {ds:List (List Int)},Paired (fun (p:List Key×V) (q:List Key×Addr×Value)=>p.1=q.1/\H q.2.1=some (.tup (p.1.map kV))/\RelV p.2 q.2.2) aj xs->aj.map (·.1)=ds.map (fun d=>d.map Sum.inl)->xs.length=ds.length/\∀ (i:Nat) (a:Addr) (d:List Int),(xs.map (·.2.1))[i]?=some a->ds[i]?=some d->H a=some (.tup (d.map V.int)):=by
  intro aj xs ds pr
  induction pr generalizing ds with
  |nil =>
   intro e
   cases ds with
   |nil=>exact ⟨rfl,fun i a d z=>by cases i<;>cases z⟩
   |cons _ _=>cases e
  | @cons pp qq ps qs hq t ih =>
   intro e
   cases ds with
   |nil=>cases e
   |cons d ds =>
    rw [List.map_cons,List.map_cons] at e
    obtain ⟨e1,e2⟩:=List.cons.inj e
    obtain ⟨i1,i2⟩:=ih e2
    refine ⟨by rw [List.length_cons,List.length_cons,i1],fun i a d' h1 h2=>?_⟩
    cases i with
    |zero =>
     cases h1
     cases h2
     have:=hq.2.1
     rw [e1,List.map_map] at this
     exact this
    |succ i=>exact i2 i a d' h1 h2
 obtain ⟨xl,Ez⟩:=keys pr hks
 obtain ⟨ks,EA⟩:∃ ks,ks=xs.map (·.2.1):=⟨_,rfl⟩
 rw [<- EA] at Ez
 have kl:ks.length=ds.length:=by rw [EA,List.length_map,xl]
 have tup:∀ a ns,H a=some (.tup (ns.map V.int))->So.eV s.heap (.ref a)=some ns:=fun a ns e=>by
  obtain ⟨_,its,r,pt⟩:=(show bQ X.prog X.w H s.heap a (.tup (ns.map V.int)) from I.av a _ e)
  exact So.nu pt (intsAre_of r)
 have oq:So.ik s.heap p ks ep:=⟨o,es,ho,eC,om,by rw [he,List.map_map,EA,List.map_map];rfl⟩
 refine Calls.call_function_entry kind_sorted plain_sorted entry_sorted (args_sorted1 _) ?_
 unfold Builtin.«sorted»
 refine wpAny_bind (m:=checkCount "sorted" 1 1 _) (wpAny_pure (wpAny_bind (PySem.W.kdu_collect (A:=X.A.in1) (So.Xb (ks:=ks) (ep:=ep) hS) (I.ok.hd hc) oq (by rw [kl];omega) fun h' tk acc hk dg=>?_)))
 have ea:acc.toList=ks.map Value.ref:=by
  refine List.ext_getElem? fun i=>?_
  rw [Array.getElem?_toList,List.getElem?_map]
  rcases Nat.lt_or_ge i ks.length with hi | hi
  ·have Ep:i<acc.size:=by rw [dg.1];exact hi
   obtain ⟨a,e1,e2⟩:=dg.2 i acc[i] (Array.getElem?_eq_getElem Ep)
   rw [Array.getElem?_eq_getElem Ep,e2,e1];rfl
  ·rw [List.getElem?_eq_none hi,Array.getElem?_eq_none (by rw [dg.1];exact hi)];rfl
 have ha:acc.toList.length=ds.length:=by rw [ea,List.length_map,kl]
 have known:∀ a ∈ ks,∃ d ∈ ds,H a=some (.tup (d.map V.int)):=fun a hm=>by
  obtain ⟨i,hi,e⟩:=List.getElem_of_mem hm
  have e':ks[i]?=some a:=by rw [List.getElem?_eq_getElem hi,e]
  exact ⟨ds[i]'(by omega),List.getElem_mem _,Ez i a _ e' (List.getElem?_eq_getElem (by omega))⟩
 refine wpAny_bind (wpAny_newList ?_ (by rw [ha];omega))
 have tY:(h'.push (seqObj "list" acc.toList.toArray 0)).get? h'.objs.size=some (seqObj "list" acc.toList.toArray 0):=Heap.get?_push_size _ rfl
 have CM:∀ v ns,So.eV s.heap v=some ns->So.eV (h'.push (seqObj "list" acc.toList.toArray 0)) v=some ns:=fun v ns e=>So.JU e fun t o _ ht _=>Heap.get?_push_of_some _ (hk t o ht)
 refine wpAny_bind (wpAny_holding (wpAny_call_entry slot_list_sort ⟨_,tY,rfl⟩ entry_list_sort (So.RO (s:={ s with heap:=h'.push (seqObj "list" acc.toList.toArray 0),toks:=tk }) tY (fun v hv=>?_) (by rw [ha];exact hz) fun out p1 p2=>⟨_,rfl,wpAny_pure ⟨_,rfl,?_⟩⟩) (args_list_sort _)))
 ·rw [ea] at hv
  obtain ⟨a,hm,rfl⟩:=List.mem_map.mp hv
  obtain ⟨d,hd,e⟩:=known a hm
  cases d with
  |nil=>exact absurd rfl (ui _ hd)
  |cons n ns=>exact ⟨n,ns,CM _ _ (tup a _ e)⟩
 ·rw [ea] at p1
  obtain ⟨as,pm,eo⟩:=Ux p1
  obtain ⟨e,heL⟩:=sortedHeap_at (out:=out) tY
  have I1:Inv X pins σ H { s with heap:=h',toks:=tk }:=I.kept (t':=tk) hk
  obtain ⟨kd,ekd⟩:∃ kd:Addr->List Int,kd=fun a=>(So.eV s.heap (.ref a)).getD []:=⟨_,rfl⟩
  have xV:∀ a d,H a=some (.tup (d.map V.int))->kd a=d:=fun a d z=>by rw [ekd];show (So.eV s.heap (.ref a)).getD []=d;rw [tup a d z];rfl
  have ek:ks.map kd=ds:=by
   refine List.ext_getElem? fun i=>?_
   rw [List.getElem?_map]
   rcases Nat.lt_or_ge i ks.length with hi | hi
   ·rw [List.getElem?_eq_getElem hi,List.getElem?_eq_getElem (show i<ds.length by omega)]
    show some (kd ks[i])=_
    rw [xV _ _ (Ez i _ _ (List.getElem?_eq_getElem hi) (List.getElem?_eq_getElem (by omega)))]
   ·rw [List.getElem?_eq_none hi,List.getElem?_eq_none (by omega)];rfl
  have sz:(as.map fun a=>(a,kd a)).map (fun q=>V.ref q.1)=as.map V.ref:=by rw [List.map_map];rfl
  have s2:(as.map fun a=>(a,kd a)).map (·.2)=as.map kd:=by rw [List.map_map];rfl
  have lt:as.length=ds.length:=by rw [pm.length_eq,kl]
  have fin:=q h'.objs.size (as.map fun a=>(a,kd a)) (I1.av.fresh (Nat.le_refl _)) (fun qq hq=>?_) (by rw [s2,<- ek];exact pm.map kd) ?_
  ·rw [sz] at fin
   refine ⟨.ref h'.objs.size,_,I1.laid (t':=tk) (o:=.lst (as.map V.ref)) (fun b o eb=>?_) (Nat.le_refl _) ?_,rfl,fin⟩
   ·have lt:b<h'.objs.size:=Heap.lt_size eb
    rw [sortedHeap_old (Nat.ne_of_lt lt) (by rw [size_push'];exact Nat.lt_succ_of_lt lt),Heap.get?_push_ne _ _ _ (Nat.ne_of_lt lt)]
    exact eb
   ·refine ⟨by rw [List.length_map,lt];omega,out.toList,e,?_,by rw [Array.toArray_toList];exact heL⟩
    rw [eo]
    exact Jo as
  ·obtain ⟨a,hm,rfl⟩:=List.mem_map.mp hq
   obtain ⟨d,hd,z⟩:=known a (pm.mem_iff.mp hm)
   show H a=some (.tup ((kd a).map V.int))
   rw [xV a d z];exact z
  ·rw [s2,List.pairwise_map]
   unfold So.tS at p2
   rw [eo,List.pairwise_map] at p2
   refine p2.imp_of_mem fun {x y} hx hy z=>?_
   obtain ⟨dx,_,zx⟩:=known x (pm.mem_iff.mp hx)
   obtain ⟨dy,_,zy⟩:=known y (pm.mem_iff.mp hy)
   unfold So.qD at z
   rw [CM _ _ (tup x _ zx),CM _ _ (tup y _ zy)] at z
   rw [xV x dx zx,xV y dy zy]
   exact z
end
theorem JV {K:PySem.W.Frag}{G H:Hp}:∀ {ns:List Int} {vs:List V} {fq:List Addr},aG K G H (ns.map fun n=>Tr.fz (di n)) vs fq->vs=ns.map V.int/\fq=[]
 |[],vs,fq,h=>h
 |n::ns,vs,fq,h=>by
  obtain ⟨v,r,f1,f2,rfl,rfl,⟨rfl,h1⟩,h2⟩:=h
  obtain ⟨rfl,rfl⟩:=JV h2
  rw [bf h1]
  exact ⟨rfl,rfl⟩
section
variable {ι:Type}{F:aY ι}{e:Expr}{ρ:En}{ta:Tr}{pos:Pos}
theorem Vr {xs:List Dv}(hm:F.mg "tuple" = none)(ha:Ev F e ρ ta)(ea:er ta=.lst xs){p':Pos}(hg:∀ i,Gl (F.cx i) "tuple" := by intro _;rfl)(hs:∀ i,starEach [e] (F.cx i).env=[(false,eval e (F.cx i).env)]:=by intro _;rfl):Ev F (.Call (.Name "tuple" p') [e] [] pos) ρ (.tp (xs.map .fz)) :=
 JE (r:=fun xs H Q=>∃ p ys,xs=[.ref p]/\((aH F.K H p ys/\∀ l,H l=none->Q (.ref l) (upd H l (.tup ys)))\/(cM F.K H p ys/\Q (.ref p) H))) (fun i=>F.hK i ▸ R1) hm U1 (af ha aq hs) (fun G H vs Q s hx k=>by
  obtain ⟨x,rfl,gX⟩:=kh hx
  rw [ea] at gX
  obtain ⟨l,ws,rfl,h1,h2⟩:=gX
  refine ⟨l,ws,rfl,.inl ⟨s.seq h1,fun p hp=>k (.ref p) G _ [p] (.gO s hp) ⟨p,ws,[],rfl,bE,?_,rfl⟩ ⟨fun a ha=>by rw [List.mem_singleton.mp ha];exact hp,fun a ha=>by rw [List.mem_singleton.mp ha];exact s.free hp,by simp⟩⟩⟩
  exact aO.gW h2) hg (by decide) (by decide) (fun i=>by rw [hs i];rfl) (fun i=>rfl)
end
theorem Yx {K:PySem.W.Frag}{G H1:Hp}{l acc:Addr}{xs:List V}{xW:St}{te:TE}{f:Nat->Tr}{Q:VK}(sG:ai G H1)(hl:H1 l=some (.lst xs))(dg:H1 acc=none)(hz:xs.length<sizeLine)(ev:∀ i x,xs[i]?=some x->∀ G2 H2 Q,ai G G2->ai G2 H2->ai H1 H2->Kv K G2 H2 (f i) Q->te (xW.set 0 (some x)) H2 Q)(k:∀ v G' H' fq,Step G H1 G' H'->Ow K G' H' (.ow ((List.range xs.length).map f)) v fq->Nw H1 G' fq->Q v H') :
  ∃ W:Nat->Nat->List V->St->Hp->Prop,(∃ m,W 0 m [] xW (upd H1 acc (.lst [])))/\∀ i m ys aA H2,W i m ys aA H2->H2 acc=some (.lst ys)/\ys.length<sizeLine /\
   (((mI K l).stop i H2/\Q (.ref acc) H2)\/((mI K l).go i H2/\∃ N:List V->St->Hp->Prop,(∀ zs bp H3,N zs bp H3->∃ m',m'<m/\W (i+1) m' zs bp H3) /\
    ∀ x H3,(mI K l).mH i H2 x H3->cZ 0 x aA H3 fun bp H4=>vD bp H4 fun b H5=>if b=true then te bp H5 (fun y H6=>H6 acc=some (.lst ys)/\N (ys++[y]) bp (upd H6 acc (.lst (ys++[y])))) else N ys bp H5)):=by
 refine ⟨fun i m ys aA H2=>m=xs.length-i/\i<=xs.length/\(∀ x,aA.set 0 (some x)=xW.set 0 (some x))/\H2 acc=some (.lst ys)/\∃ G2 fq,Step G H1 G2 H2/\aG K G2 H2 ((List.range i).map f) ys fq/\Nw H1 G2 (acc::fq),
  ⟨_,rfl,Nat.zero_le _,fun _=>rfl,bE,G,[],.gO sG dg,⟨rfl,rfl⟩,⟨fun a ha=>by rw [List.mem_singleton.mp ha];exact dg,fun a ha=>by rw [List.mem_singleton.mp ha];exact sG.free dg,by simp⟩⟩,?_⟩
 rintro i m ys aA H2 ⟨rfl,hi,qQ,ku,G2,fq,s2,o2,w2⟩
 have hlen:ys.length<sizeLine:=by rw [<- o2.length,List.length_map,List.length_range];omega
 refine ⟨ku,hlen,?_⟩
 have iI:H2 l=some (.lst xs):=s2.h _ _ hl
 by_cases aZ:i<xs.length
 ·have hx:=List.getElem?_eq_getElem aZ
  refine .inr ⟨⟨xs,xs[i],.inl (.inl iI),hx⟩,fun zs bp H3=>(∀ x,bp.set 0 (some x)=xW.set 0 (some x))/\H3 acc=some (.lst zs)/\∃ G3 fq,Step G H1 G3 H3/\aG K G3 H3 ((List.range (i+1)).map f) zs fq/\Nw H1 G3 (acc::fq),
   fun zs bp H3 z=>⟨xs.length-(i+1),by omega,rfl,aZ,z⟩,fun x H3 y=>?_⟩
  obtain ⟨rfl,y⟩:=y
  have ex:=y xs (.inl (.inl iI))
  have wA:∀ {Ga Ha Gb Hb:Hp} {fs:List Addr},Step Ga Ha Gb Hb->(∀ a ∈ fs,Ga a=none)->(∀ a ∈ fs,∃ o,Ha a=some o)->∀ a ∈ fs,Gb a=none:=fun {Ga Ha Gb Hb fs} st h1 h2 a ha=>by
   cases q:Gb a with
   |none=>rfl
   |some u =>
    obtain ⟨u',bh⟩:=h2 a ha
    have:=st.n a (h1 a ha) (by rw [q];exact fun z=>nomatch z)
    rw [bh] at this;cases this
  have qR:∀ a ∈ acc::fq,∃ o,H3 a=some o:=fun a ha=>(List.mem_cons.mp ha).elim (fun z=>⟨_,z ▸ ku⟩) (o2.there a)
  dsimp only [cZ,vD]
  rw [if_pos rfl,qQ]
  refine ev i x ex G2 H3 _ s2.g s2.s s2.h fun v G6 H6 f6 s6 o6 w6=>?_
  have Ed:=s6.h _ _ ku
  have oh:∀ a ∈ f6,a ∉ acc::fq:=fun a ha hb=>by
   obtain ⟨u,hu⟩:=qR a hb
   rw [w6.n a ha] at hu;cases hu
  have lh:=List.nodup_cons.mp w2.d
  have g6:=wA s6 w2.g qR
  have EB:=s2.trans s6
  refine ⟨Ed,fun x'=>by rw [List.set_set],bE,G6,fq++(f6++[]),⟨EB.g,fun b u hb=>?_,fun b u hb=>?_,EB.n⟩,?_,⟨fun a ha=>?_,fun a ha=>?_,?_⟩⟩
  ·rw [aP fun z=>by subst z;rw [dg] at hb;cases hb]
   exact EB.h b u hb
  ·rw [aP fun z=>by subst z;rw [g6 _ (.head _)] at hb;cases hb]
   exact s6.s b u hb
  ·rw [List.range_succ,List.map_append]
   exact aG.append ((o2.mono s6.g s6.h).frame lh.1) ⟨v,[],f6,[],rfl,rfl,o6.frame fun z=>oh _ z (.head _),rfl,rfl⟩
  ·rw [List.append_nil] at ha
   rcases List.mem_cons.mp ha with z | z
   ·exact w2.n a (z ▸ .head _)
   ·rcases List.mem_append.mp z with z | z
    ·exact w2.n a (.tail _ z)
    ·exact s2.h.free (w6.n a z)
  ·rw [List.append_nil] at ha
   rcases List.mem_cons.mp ha with z | z
   ·exact g6 a (z ▸ .head _)
   ·rcases List.mem_append.mp z with z | z
    ·exact g6 a (.tail _ z)
    ·exact w6.g a z
  ·rw [List.append_nil]
   refine List.nodup_cons.mpr ⟨fun z=>?_,List.nodup_append.mpr ⟨lh.2,w6.d,fun a ha b hb z=>?_⟩⟩
   ·rcases List.mem_append.mp z with z | z
    ·exact lh.1 z
    ·exact oh _ z (.head _)
   ·subst z;exact oh a hb (.tail _ ha)
 ·have e:i=xs.length:=by omega
  subst e
  exact .inl ⟨⟨xs,.inl (.inl iI),Nat.le_refl _⟩,k (.ref acc) G2 H2 (acc::fq) s2 ⟨acc,ys,fq,rfl,ku,o2,rfl⟩ w2⟩
end L2
namespace L2
open PySem
theorem R8:entryFor table "proto.unchain" = some Builtin.«proto.unchain»:=entryFor_of_tree (by kernel_rfl)
def Nk (h:Heap)(x:Addr):Prop:=∃ o vs,h.get? x=some o/\o.data=.fields vs/\vs[2]?=some .none
section
variable {prog:Program}{w:World}{A:Around}{E:Value->Shared->Prop}{s:Shared}{α:Type}
theorem R9 {e x:Addr}{o:Obj}{vs:Array Value}{Q : α->Shared->Prop}(hh:A.handled=some (.ref x))(ne:x ≠ e)(ho:s.heap.get? e=some o)(hd:o.data=.fields vs)(h2 : 2<vs.size)(hx:Nk s.heap x)(k:E (.ref e) { s with heap:=s.heap.update e (Obj.mapFields (·.setIfInBounds 2 (.ref x))) }):wpAny (model prog w) A (raiseNew (.ref e):Sem α) Q E s:=by
 obtain ⟨ox,xs,hx,hxd,Eu⟩:=hx
 unfold raiseNew
 refine wpAny_bind (wpAny_handled ?_)
 rw [hh]
 have nb:(Value.ref x != Value.ref e)=true:=by simp [ne]
 simp only [nb,if_true]
 refine wpAny_bind (wpAny_holding (wpAny_runValue (codeAny_builtin R8 ?_)))
 show wpAny _ _ (field (.ref x) 2 >>= _) _ _ _
 refine wpAny_bind (wpAny_field hx hxd Eu ?_)
 rw [if_pos (by decide)]
 refine wpAny_pure ?_
 exact wpAny_bind (show wpAny _ _ (setField (.ref e) 2 (.ref x)) _ _ _ from wpAny_setField ho hd h2 (wpAny_throw k))
theorem RE {it x:Addr}{a left step:Int}{Q:Option Value->Shared->Prop}(hh:A.handled=some (.ref x))(hx:Nk s.heap x)(hit:IsRangeIter s.heap it a left step)(hl:left<=0)(hQ:∀ h',Heap.ExtBut it s.heap h'->Q none { s with heap:=h' }):wpAny (model prog w) A (pyNext (.ref it)) Q E s:=by
 have hT:s.TypeIs (.ref it) "range_iterator" := ⟨_,hit,rfl⟩
 unfold pyNext
 refine wpAny_bind (wpAny_attempt (wpAny_callSpecial?_slot (name:=Str.ofString "__next__") hT F.slot_range_iterator_next (wpAny_call_entry F.slot_range_iterator_next hT F.entry_range_iterator_next ?_ (F.args_range_iterator_next_1 _))))
 show wpAny _ _ (field (.ref it) 0 >>= _) _ _ s
 refine wpAny_bind (wpAny_field hit rfl (x:=rawInt a) rfl ?_)
 show wpAny _ _ (field (.ref it) 1 >>= _) _ _ s
 refine wpAny_bind (wpAny_field hit rfl (x:=rawInt left) rfl ?_)
 show wpAny _ _ (field (.ref it) 2 >>= _) _ _ s
 refine wpAny_bind (wpAny_field hit rfl (x:=rawInt step) rfl ?_)
 show wpAny _ _ (if left<=0 then _ else _) _ _ s
 rw [if_pos hl]
 refine wpAny_bind (wpAny_rule (wpAny_bind ?_))
 show wpAny _ _ (newExc (.type "StopIteration") [] >>= _) _ _ _
 refine wpAny_bind ?_
 simp only [newExc,newTuple]
 refine wpAny_bind (wpAny_newObj_type ?_ (by size_fits))
 refine wpAny_bind (m:=firstArgMember _ _) (wpAny_of_eq (a:=Value.none) (by first | rfl | (simp only [firstArgMember];rfl)) ?_)
 refine wpAny_newObj_type ?_ (by size_fits)
 obtain ⟨ox,xs,q1,q2,q3⟩:=hx
 have up:∀ (z1 z2:Obj) b o,s.heap.get? b=some o->((s.heap.push z1).push z2).get? b=some o:=fun z1 z2 b o z=>Heap.get?_push_of_some _ (Heap.get?_push_of_some _ z)
 have lt:=Heap.lt_size q1
 have lti:=Heap.lt_size hit
 refine R9 (x:=x) (by first | exact hh | exact (show A.in1.handled=_ from hh)) (by rw [Heap.size_push];exact Nat.ne_of_lt (Nat.lt_succ_of_lt lt)) (Heap.get?_push_size _ rfl) rfl (Nat.lt_of_lt_of_le (show 2<6 by decide) (by rw [Array.size_append];exact Nat.le_add_right 6 _)) ⟨ox,xs,up _ _ _ _ q1,q2,q3⟩ ?_
 refine wpAny_bind (wpAny_isInstance (T := "StopIteration") (b:=true) ⟨_,Heap.get?_update_self _ (Heap.get?_push_size _ rfl) rfl,rfl⟩ isSubtype_stop ?_)
 refine wpAny_pure (hQ _ fun b o hb e=>?_)
 have ltb:=Heap.lt_size e
 refine (Heap.get?_update_other _ _ ?_).trans (up _ _ _ _ e)
 rw [Heap.size_push]
 exact Nat.ne_of_gt (Nat.lt_succ_of_lt ltb)
end
end L2
namespace L2
open PySem PySem.Spec PyProof.Rows
structure Nm (A:Around) (P:Program) (w:World) (K:PySem.W.Frag) (tg:Expr) (J:It) (fp:List Addr) (it:Addr) (tn:Nat->Heap->Prop):Prop where
 mem:it ∈ fp
 obj:∀ i h,tn i h->∀ b ∈ fp,∃ o,h.get? b=some o/\∀ v,o.data ≠ .cell v
 keep:∀ i h h',tn i h->(∀ b ∈ fp,∀ o,h.get? b=some o->h'.get? b=some o)->tn i h'
 item:∀ (X:Cx),X.prog=P->X.w=w->X.K=K->X.A=A->∀ (i:Nat) (pins:List (Addr×Obj)) (s:Shared) (σ:St) (H:Hp) (E:Value->Shared->Prop),Inv X pins σ H s->(∀ b ∈ fp,eZ X pins H b)->tn i s.heap->J.go i H ->
  wpAny (model P w) A (pyNext (.ref it)) (fun r s1=>∃ u,r=some u /\
   wpAny (model P w) A (letOwnedTupleGo tg (.ref it) u) (fun _ s2=>∃ x H',Inv X pins σ H' s2/\RelV x u/\J.mH i H x H'/\tn (i+1) s2.heap/\∀ b ∈ fp,H' b=none) E s1) E s
 done:∀ (X:Cx),X.prog=P->X.w=w->X.K=K->X.A=A->∀ (i:Nat) (pins:List (Addr×Obj)) (s:Shared) (σ:St) (H:Hp) (E:Value->Shared->Prop),Inv X pins σ H s->(∀ b ∈ fp,eZ X pins H b)->tn i s.heap->J.stop i H ->
  wpAny (model P w) A (pyNext (.ref it)) (fun r s1=>r=none/\Inv X pins σ H s1) E s
 self:∀ (A:Around) (i:Nat) (s:Shared) (Q:Value->Shared->Prop) (E:Value->Shared->Prop),tn i s.heap->Q (.ref it) s->wpAny (model P w) A (pyIter (.ref it)) Q E s
def aae (X:Cx)(pins:List (Addr×Obj))(σ:St)(tg:Expr)(R:It->Hp->Prop)(nU:Value)(s2:Shared):Prop :=
 ∃ (it:Addr) (fp:List Addr) (tn:Nat->Heap->Prop) (J:It) (H':Hp),nU=.ref it/\Inv X pins σ H' s2/\Nm X.A X.prog X.w X.K tg J fp it tn/\tn 0 s2.heap/\(∀ b ∈ fp,eZ X pins H' b)/\R J H'
def Qg (X:Cx)(tg iter:Expr)(wi:TI):Prop :=
 ∀ (pins:List (Addr×Obj)) (s:Shared) (σ:St) (H:Hp) (R:It->Hp->Prop),Inv X pins σ H s->wi σ H R ->
  wpAny (model X.prog X.w) X.A (eval iter X.env) (fun v s1=>wpAny (model X.prog X.w) X.A (pyIter v) (aae X pins σ tg R) X.xe s1) X.xe s
def Oi (x:Addr)(n:Nat):It:=⟨fun i _=>i<n,fun i H v H'=>H'=H/\v=.int (0+(i:Int)),fun i H=>n<=i/\∃ C d,H x=some (i7 x C d)⟩
theorem S4 {A:Around}{P:Program}{w:World}{K:PySem.W.Frag}{tg:Expr}{x:Addr}(hh:A.handled=some (.ref x))(it:Addr)(n:Nat):Nm A P w K tg (Oi x n) [it] it (fun i h=>IsRangeIter h it (0+(i:Nat)*1) ((n:Int)-(i:Nat)) 1) where
 mem:=by simp
 obj:=fun i h st b hb=>by
  have e:b=it:=by simpa using hb
  subst e
  exact ⟨_,st,fun v z=>by
   have z':Data.fields _=Data.cell v:=z
   cases z'⟩
 keep:=fun i h h' st k=>k it (by simp) _ st
 item:=by
  intro X hP hw hK hA i pins s σ H E I hf st hg
  subst hP hw hK
  obtain ⟨f0,f1,f2,f3,f4,f5⟩:=hf it (by simp)
  have hg:i<n:=hg
  refine wpAny_pyNext_range_item st (by omega) fun h' ag sb=>?_
  have I1:Inv X pins σ H { s with heap:=h',toks:=s.toks+1 }:=I.turned (fun b o hb e=>(sb.2 b hb).trans e) f0 f1 f3 f4 f5
  have e1:(0:Int)+((i+1:Nat):Int)*1=0+(i:Int)*1+1:=by push_cast;omega
  have e2:(n:Int)-((i+1:Nat):Int)=(n:Int)-(i:Int)-1:=by push_cast;omega
  have aD:IsRangeIter h' it (0+((i+1:Nat):Int)*1) ((n:Int)-((i+1:Nat):Int)) 1:=by rw [e1,e2];exact ag
  refine ⟨_,rfl,Cz (s:={ s with heap:=h',toks:=s.toks+1 }) (n := "range_iterator") aD rfl rfl (by decide) ⟨.int (0+i),H,I1,⟨s.toks,?_⟩,⟨rfl,rfl⟩,aD,fun b hb=>(hf b hb).1⟩⟩
  rw [Int.mul_one]
 done:=by
  intro X hP hw hK hA i pins s σ H E I hf st hg
  subst hP hw hK
  obtain ⟨f0,f1,f2,f3,f4,f5⟩:=hf it (by simp)
  obtain ⟨hn,C,d,hx⟩:=hg
  obtain ⟨⟨o,vs,q1,q2,q3,q4,q5⟩,_,_⟩:=I.av x _ hx
  exact RE hh ⟨o,vs,q1,q3,q5⟩ st (by omega) fun h' eb=>⟨rfl,I.turned (t':=s.toks) (fun b o hb e=>eb b o hb e) f0 f1 f3 f4 f5⟩
 self:=fun _ _ _ _ _ st h=>wpAny_pyIter_rangeiter st h
def Zx (x:Addr)(ta:TA):TI:=fun σ H R=>ta σ H fun vs H1=>∃ j:Int,vs=[.int j] /\ -(2 ^ 62)<=j/\j<2 ^ 62/\R (Oi x j.toNat) H1
section
variable {X:Cx}{tg:Expr}{x:Addr}
theorem Uy {a:Expr}{ta:TA}{p pos:Pos}(hh:X.A.handled=some (.ref x))(hg:Gl X "range")(hm:X.mg "range" = none)(ha:PA X [a] ta)(hs:starEach [a] X.env=[(false,eval a X.env)]:=by rfl):Qg X tg (.Call (.Name "range" p) [a] [] pos) (Zx x ta):=by
 intro pins s σ H R I h
 refine Call_ (lS I hg hm boot_range (PyProof.Rows.callWith_type1 (ay (ha pos pins s σ H _ I h) fun us s1 ⟨vs,H1,I1,r1,q1⟩=>?_) hs rfl))
 obtain ⟨j,e,q1,q2,q⟩:=q1
 subst e
 cases r1 with
 |cons r rr =>
  cases rr
  obtain ⟨t,rfl⟩:=r
  refine call_range_1 ?_
  refine wpAny_pyIter_range (IsRange.new ..) (small_one (by omega) (by omega) q1 q2) ?_
  have I2:=fun (z:Obj) (tk:Nat)=>I1.kept (h':=s1.heap.push z) (t':=tk) fun b o e=>Heap.get?_push_of_some _ e
  refine ⟨_,[_],_,_,H1,rfl,(I2 _ _).kept (t':=_) fun b o e=>Heap.get?_push_of_some _ e,S4 hh _ j.toNat,?_,fun b hb=>?_,q⟩
  ·have e1:(0:Int)+((0:Nat):Int)*1=0:=by simp
   have e2:((j.toNat:Nat):Int)-((0:Nat):Int)=Builtin.Range.rangeSize 0 j 1:=by rw [rangeSize_one];split<;>omega
   show IsRangeIter _ _ (0+((0:Nat):Int)*1) (((j.toNat:Nat):Int)-((0:Nat):Int)) 1
   rw [e1,e2]
   exact Heap.get?_push_size _ rfl
  ·rw [List.mem_singleton.mp hb]
   exact (I2 _ _).qo (Nat.le_refl _) ((I2 _ _).av.fresh (Nat.le_refl _))
end
theorem Yy {X:Cx}{elt tg iter:Expr}{ifs:List Expr}{sc:Scope}{cl:List (Str×Addr)}{own:List Str}{fr:List Nat}{pos:Pos}{wi:TI}{g:TG}{tt:TT}{te:TE}(L:hJ X sc cl fr)(hi:Qg X tg iter wi)(hg:∀ C s H ex pn,PG (bU X own fr sc cl C s H ex pn) tg g)(ht:∀ C s H ex pn (pins:List (Addr×Obj)) (s1:Shared) (aA:St) (H1:Hp) (Q:Bool->Hp->Prop),Inv (bU X own fr sc cl C s H ex pn) pins aA H1 s1->tt aA H1 Q ->
   wpAny (model X.prog X.w) X.A (jV ifs (compEnvC sc (cellsFrom (C+1) sc.names cl) C X.env)) (TP (bU X own fr sc cl C s H ex pn) pins aA Q) cv s1)(he:∀ C s H ex pn,PE (bU X own fr sc cl C s H ex pn) elt te)(hs:∀ x,foldedSetIterable iter X.env x=pure x:=by intro _;rfl) :
  PE X (.ListComp elt [⟨tg,iter,ifs,0⟩] sc pos) (qK wi g tt te own fr):=by
 intro pins s σ H Q I h
 rw [eval_ListComp]
 refine wpAny_comprehension_free (use:=none) rfl hs L.wR L.kind L.names (ay (hi pins s σ H _ I h) fun v s1 h1=>ay h1 fun nU s2 h2=>?_)
 obtain ⟨it,fp,tn,J,H2,e,I2,T,aD,f2,h2⟩:=h2
 subst e
 refine wpAny_newObj_type ?_
 have I3:Inv X pins σ (upd H2 s2.heap.objs.size (.lst [])) { s2 with heap:=s2.heap.push { cls:=.type "list",data:=.seq ([]:List Value).toArray } }:=I2.wN (t':=s2.toks) .nil (Nat.zero_le _)
 have n2:H2 s2.heap.objs.size=none:=I2.fresh
 obtain ⟨W,⟨m0,w0⟩,turn⟩:=h2 _ n2
 have nX:∀ b ∈ fp,b<s2.heap.objs.size:=fun b hb=>by
  obtain ⟨o,eo,_⟩:=T.obj 0 _ aD b hb
  exact Heap.lt_size eo
 have bV:∀ b ∈ fp,eZ X pins (upd H2 s2.heap.objs.size (.lst [])) b:=fun b hb=>⟨by rw [aP (Nat.ne_of_lt (nX b hb))];exact (f2 b hb).1,(f2 b hb).2⟩
 generalize fc:({ s2 with heap:=s2.heap.push { cls:=.type "list",data:=.seq ([]:List Value).toArray } }:Shared)=s3 at I3
 have de:tn 0 s3.heap:=by
  rw [<- fc]
  exact T.keep 0 _ _ aD fun b hb o eo=>Heap.get?_push_of_some _ eo
 have jB:∀ b ∈ fp,b<s3.heap.objs.size:=fun b hb=>by
  obtain ⟨o,eo,_⟩:=T.obj 0 _ de b hb
  exact Heap.lt_size eo
 generalize t8:upd H2 s2.heap.objs.size (.lst [])=H3 at I3 bV w0
 generalize s2.heap.objs.size=acc at turn w0 t8 ⊢
 refine zF ?_
 have gS:(pushCells (s3.heap.push { cls:=.type "dict",data:=.dict #[] }) sc.names).Ns s3.heap.objs.size fun _=>none:=(Heap.Ns.new s3.heap (.type "dict")).keeps (pushCells_keeps _ _)
 have kp:∀ b o,s3.heap.get? b=some o->(pushCells (s3.heap.push { cls:=.type "dict",data:=.dict #[] }) sc.names).get? b=some o:=fun b o eo=>pushCells_keeps _ _ b o (Heap.get?_push_of_some _ eo)
 have kr:∀ y c,(cellsFrom (s3.heap.objs.size+1) sc.names cl).lookup y=some c->cl.lookup y=some c\/(pushCells (s3.heap.push { cls:=.type "dict",data:=.dict #[] }) sc.names).IsCell c none:=fun y c e =>
  sk sc.names (s3.heap.push { cls:=.type "dict",data:=.dict #[] }) cl y c (by rw [Heap.size_push];exact e)
 generalize PC:pushCells (s3.heap.push { cls:=.type "dict",data:=.dict #[] }) sc.names=h4 at gS kp kr
 have I4:=lcInv (own:=own) (tk:=s3.toks) L I3 bV jB gS kp kr
 have mK:tn 0 h4:=T.keep 0 _ _ de fun b hb o eo=>kp b o eo
 have stat:∀ {H':Hp},(∀ b ∈ fp,H' b=none)->∀ b ∈ fp,eZ (bU X own fr sc cl s3.heap.objs.size s3 H3 fp (X.pn++pins)) [] H' b:=fun {H'} hn b hb =>
  ⟨hn b hb,Nat.ne_of_lt (jB b hb),fun z=>(List.mem_cons.mp (I3.lR b z)).elim (bV b hb).2.1 (bV b hb).2.2.1,.inl hb,fun y c e=>(pq _ _ _ y c e).elim (fun q=>(bV b hb).2.2.2.2.1 y c (L.sub y c q)) fun q=>Nat.ne_of_gt (Nat.lt_of_lt_of_le (jB b hb) (Nat.le_of_succ_le q.1)),fun p hp=>(bV b hb).2.2.2.2.2 p (by
   have z:p ∈ (X.pn++pins)++[]:=hp
   simpa using z)⟩
 have loop:codeAny (model X.prog X.w) X.A (.compLoop (.ListComp elt [⟨tg,iter,ifs,0⟩] sc pos) 0 (.ref it) (.ref acc) (compEnvC sc (cellsFrom (s3.heap.objs.size+1) sc.names cl) s3.heap.objs.size X.env))
   (compPost (model X.prog X.w) X.A X.xe none (EP X pins σ Q) (.ref acc) s3.heap.objs.size) { s3 with heap:=h4,toks:=s3.toks }:=by
  refine BJ (fun n s'=>∃ i ys aA H1,Inv (bU X own fr sc cl s3.heap.objs.size s3 H3 fp (X.pn++pins)) [] aA H1 s'/\tn i s'.heap/\(∀ b ∈ fp,H1 b=none)/\W i n ys aA H1) ?_ m0 ⟨0,[],_,H3,I4,mK,fun b hb=>(bV b hb).1,w0⟩
  rintro n s5 ⟨i,ys,gT,H5,I5,jf,kq,w5⟩
  obtain ⟨dg,hlen,hh⟩:=turn i n ys gT H5 w5
  rcases hh with ⟨stop,qn⟩ | ⟨go,N,hN,step⟩
  ·refine ay (T.done (bU X own fr sc cl s3.heap.objs.size s3 H3 fp (X.pn++pins)) rfl rfl rfl rfl i [] s5 gT H5 cv I5 (stat kq) jf stop) fun r s6 ⟨hr,I6⟩=>?_
   subst hr
   obtain ⟨m6,t9,_⟩:=id I6.loc
   refine ⟨m6,t9,fun h7 gU=>⟨.ref acc,H5,?_,rfl,qn⟩⟩
   have old:∀ b o,s3.heap.get? b=some o->b ≠ s3.heap.objs.size:=fun b o eo=>Nat.ne_of_lt (Heap.lt_size eo)
   have u6:Un (bG X.stack) fp H3 H5 s3.heap s6.heap:=I6.base
   have u7:Un (bG X.stack) fp H3 H5 s3.heap h7 :=
    ⟨fun b o eo nn hb hx=>(gU.2 b (old b o eo)).trans (u6.keep b o eo nn hb hx),fun b o eo nn hb hx=>by
     obtain ⟨sl,q⟩:=u6.slot b o eo nn hb hx
     exact ⟨sl,(gU.2 b (old b o eo)).trans q⟩,u6.free,fun b o eo hx=>by
     obtain ⟨o',q⟩:=u6.there b o eo hx
     exact ⟨o',(gU.2 b (old b o eo)).trans q⟩,u6.eh,u6.dR,u6.eu⟩
   have fC:H5 s3.heap.objs.size=none:=I6.free
   have tI:bO X.prog X.w H5 h7:=fun b ob eb=>by
    refine (I6.av b ob eb).iq (fun c w' gR q=>(gU.2 c ?_).trans q) (fun _ q=>q) fun _ _ q=>q
    rintro rfl
    rcases gR with z | z
    ·rw [<- z,fC] at eb;cases eb
    ·rw [fC] at z;cases z
   exact I3.wm (s':={ s6 with heap:=h7 }) I6.os u7 tI I6.bare fun b hb=>⟨(bV b hb).2.2.2.1,(bV b hb).2.1,(bV b hb).2.2.2.2.1,(bV b hb).2.2.2.2.2⟩
  ·refine ay (T.item (bU X own fr sc cl s3.heap.objs.size s3 H3 fp (X.pn++pins)) rfl rfl rfl rfl i [] s5 gT H5 cv I5 (stat kq) jf go) fun r s6 ⟨u,hr,h6⟩=>?_
   subst hr
   refine ay h6 fun _ s7 ⟨x,H7,I7,r7,y7,jC,ua⟩=>?_
   have ub:=I7.pinned (stat ua) (T.obj _ _ jC)
   refine ay (hg _ _ _ _ _ _ s7 gT H7 x u _ ub r7 (step x H7 y7)) fun _ s8 ⟨gV,H8,I8,q8⟩=>?_
   have again:∀ {zs:List V} {cz:St} {H9:Hp} {s9:Shared},Inv (bU X own fr sc cl s3.heap.objs.size s3 H3 fp (X.pn++pins)) ([]++nk fp s7.heap) cz H9 s9->N zs cz H9 ->
     ∃ m,m<n/\∃ i ys aA H1,Inv (bU X own fr sc cl s3.heap.objs.size s3 H3 fp (X.pn++pins)) [] aA H1 s9/\tn i s9.heap/\(∀ b ∈ fp,H1 b=none)/\W i m ys aA H1:=fun {zs cz H9 s9} I9 n9=>by
    obtain ⟨m',hm,w9⟩:=hN zs cz H9 n9
    refine ⟨m',hm,i+1,zs,cz,H9,I9.pC,T.keep _ _ _ jC fun b hb o e=>(I9.pin (b,o) (List.mem_append_right _ (List.mem_append_right _ (lL hb e)))).1,fun b hb=>?_,w9⟩
    obtain ⟨o,e,d⟩:=T.obj _ _ jC b hb
    exact (I9.pin (b,o) (List.mem_append_right _ (List.mem_append_right _ (lL hb e)))).2.1
   refine ay (ht _ _ _ _ _ _ s8 gV H8 _ I8 q8) fun ok s9 ⟨H9,I9,q9⟩=>?_
   cases ok with
   |false=>exact again I9 (by simpa using q9)
   |true =>
    refine ay (he _ _ _ _ _ _ s9 gV H9 _ I9 q9) fun z kW ⟨y,uc,iJ,ud,kX,uf⟩=>?_
    refine ay (mY _ kW gV uc (.ref acc) [y] (.ref acc) [z] (fun _ H'=>N (ys++[y]) gV H') iJ rfl (.cons ud .nil) ⟨acc,ys,y,rfl,rfl,kX,hlen,uf⟩) fun _ PD ⟨_,PF,ug,_,uh⟩=>again ug uh
 rw [<- fc] at loop ⊢
 exact codeAny_compStart_list loop (xE (T.self _ 0 _ _ _ mK (by rw [fc];rw [fc] at loop;exact loop)))
structure nC (k:Nat) (A:Around):Prop where
 dp:A.depth+3*k+5<recursionLimit
 un:A.units+16*k+200<cLine
theorem cQ.h {k:Nat}{A:Around}(r:cQ k A)(v:Option Value):nC k (A.mark v):=⟨r.dp,r.un⟩
theorem nC.mono {j k:Nat}{A:Around}(r:nC k A)(h:j<=k):nC j A:=⟨by have:=r.dp;omega,by have:=r.un;omega⟩
def xX (P:Program)(w:World)(K:PySem.W.Frag)(mg:Str->Option Value)(base:Heap)(N:List Str)(qual:Str)(sc:Scope)(f:Addr)(cd:Value)(A:Around)(outer:List Env)(s:Shared)(H:Hp):Cx :=
 { (cJ ao P w K mg base N qual sc f cd A outer s H fun _ _ _=>False).e8 with calm:=false }
structure wG (P:Program) (w:World) (K:PySem.W.Frag) (mg:Str->Option Value) (base:Heap) (k:Nat) (f:Addr) (fd:FuncData) (ps:List Str) (sp:Addr->Sp):Prop where
 len:∀ x vs H Q E,sp x vs H Q E->vs.length=ps.length
 run:∀ (x:Addr) (A:Around) (outer:List Env) (s:Shared) (H:Hp) (args:Args) (us:List Value) (vs:List V) (Q:VK),A.handled=some (.ref x)->nC k A->qv P w K mg base A outer s H->BindsTo s fd args (ps.zip us)->Vals vs us->sp x vs H Q (fun _ _ _=>False) ->
  codeAny (model P w) A (.call (.ref f) args) (CR ao outer P w H s Q fun _ _ _=>False) s
section
variable {P:Program}{w:World}{K:PySem.W.Frag}{mg:Str->Option Value}{base:Heap}
theorem iw.okH {x qual:Str}{st:Stmt}{dV:Value}{f:Addr}{fd:FuncData}{N ps:List Str}{k:Nat}{sp:Addr->Sp}(F:iw K x qual st dV f fd)(S:bj N ps (ah st))(len:∀ x vs H Q E,sp x vs H Q E->vs.length=ps.length)(kH:∀ (x:Addr) (aU:Value) (A:Around) (outer:List Env) (s:Shared) (H:Hp) (vs:List V) (Q:VK),(A.deeper (envOfC qual (ah st) s.heap.objs.size f aU)).handled=some (.ref x)->nC k (A.deeper (envOfC qual (ah st) s.heap.objs.size f aU))->sp x vs H Q (fun _ _ _=>False) ->
   ∃ t,cL (xX P w K mg base N qual (ah st) f aU A outer s H) (aN st) t/\t { nx:=fun _ H'=>Q .aS H',rt:=Q } (start N vs) H):wG P w K mg base (k+1) f fd ps sp:=by
 obtain ⟨oc,od,kV,doc,pm,an,aU,ct,gu,rfl,lk,eC⟩:=F.ex
 refine ⟨len,fun x A outer s H args us vs Q hh hr e0 hb r iG=>?_⟩
 have hl:=len _ _ _ _ _ iG
 have kx:K.In s.heap:=e0.mod.nR.keeps fun b o e=>(e0.bs b o e).1
 have lim:s.heap.NoLimit:=e0.mod.nolimit.keeps fun b o e=>(e0.bs b o e).1
 have hk:∀ y ∈ ps.zip us,(ah st).names.lookup y.1=some .local\/((ah st).names.lookup y.1=some .cell/\((cellsFrom (s.heap.objs.size+1) (ah st).names []).lookup y.1).isSome=true):=fun ⟨n,v⟩ hy=>by
  rcases S.par n (List.of_mem_zip hy).1 with q | q
  ·exact .inl q
  ·exact .inr ⟨q,PySem.W.cellsFrom_some _ _ _ (.inl q)⟩
 refine codeAny_call_function (by have:=hr.dp;omega) (kx _ _ lk) rfl S.co S.gen rfl (PySem.W.codeRec_of kx eC) (hb _ _ _ _ ?_)
 refine wpAny_newFunctionEnv_cells S.kind hk fun env he s1 z=>?_
 subst he
 refine ⟨lim.keeps z.toInCall.keep,codeAny_func ?_⟩
 obtain ⟨t,ht,hq⟩:=kH x aU A outer s H vs Q hh ⟨by have:=hr.dp;show A.depth+1+3*k+5<_;omega,by have:=hr.un;show A.units+3+16*k+200<_;omega⟩ iG
 have e1:qv P w K mg base { A with handled:=none } outer s H:=⟨e0.frames,e0.mod,e0.bs,e0.iE,e0.eA,e0.gQ,e0.av,e0.bare⟩
 have I0:=Ja (CX:=ao) (f:=f) (cd:=aU) (E:=fun _ _ _=>False) S (A:={ A with handled:=none }) rfl e1 hl r z
 have I:Inv (xX P w K mg base N qual (ah st) f aU A outer s H) [] (start N vs) H s1 :=
  ⟨⟨I0.ok.mod,I0.ok.kind,I0.ok.glob,I0.ok.blt,I0.ok.above,I0.ok.inj,I0.ok.has,I0.ok.kn,fun z=>Bool.noConfusion z,I0.ok.frames,I0.ok.jd,I0.ok.nS,I0.ok.bs,I0.ok.iE,I0.ok.ke,I0.ok.kM,I0.ok.eA,I0.ok.gQ⟩,I0.os,I0.bare,I0.base,I0.loc,I0.cell,I0.free,I0.fA,I0.pin,I0.av,I0.len⟩
 refine wpAny_mono (ht [] s1 (start N vs) H _ I hq) (fun fl s' hs=>?_) fun e s' hs=>hs.elim
 cases fl with
 |ret u =>
  obtain ⟨v,az,H',J,rv,q⟩:=hs
  exact ⟨v,H',J.os,J.bare,J.base,J.av,rv,q⟩
 |next =>
  obtain ⟨az,H',J,q⟩:=hs
  exact ⟨V.aS,H',J.os,J.bare,J.base,J.av,rfl,q⟩
 |brk =>
  obtain ⟨_,_,_,q⟩:=hs
  exact False.elim q
 |cont =>
  obtain ⟨_,_,_,q⟩:=hs
  exact False.elim q
end
def Mr (sp:Sp)(t:TA):TE:=fun σ H Q=>t σ H fun vs H1=>sp vs H1 Q fun _ _ _=>False
theorem Vs {X:Cx}{k:Nat}{f x:Addr}{fd:FuncData}{ps:List Str}{sp:Addr->Sp}{g:Str}{p pos:Pos}{e:Expr}{es:List Expr}{t:TA}(F:wG X.prog X.w X.K X.mg X.base k f fd ps sp)(hh:X.A.handled=some (.ref x))(hr:nC k X.A)(hg:Gl X g)(hm:X.mg g=some (.ref f))(hk:PySem.W.keepIn X.K (.ref f)=true)(hb:Binds X.K fd ps [])(ha:PA X (e::es) t)(hdb:(g==("__debug__" : Str))=false:=by decide)(he:starEach (e::es) X.env=(false,eval e X.env)::starEach es X.env:=by rfl)(bW:(backTo pos (starEach es X.env)).any (·.1)=false:=by rfl) :
  PE X (.Call (.Name g p) (e::es) [] pos) (Mr (sp x) t):=by
 intro pins s σ H Q I h
 refine wpAny_Call_Name_kw (sd I hg hm ?_ hdb)
 refine PySem.W.callWith_K (h₀:=X.base) I.ok.mod.nR hk (ay (ha pos pins s σ H _ I h) fun us s1 ⟨vs,H1,I1,r,q⟩=>⟨I1.cU,?_⟩) he bW
 have hl:(us++[]).length=ps.length:=by rw [List.append_nil,<- r.length];exact F.len _ _ _ _ _ q
 have eI:=hb s1 us I1.cU hl
 rw [List.append_nil] at eI
 refine wpAny_call (codeAny_mono (F.run x X.A X.stack s1 H1 ⟨us,[]⟩ us vs Q hh hr I1.Dr eI r q) fun r s' hq=>?_)
 cases r with
 |error e=>exact False.elim hq
 |ok fl =>
  cases fl with
  |ret u=>exact I1.after hq
  |next=>exact False.elim hq
  |brk=>exact False.elim hq
  |cont=>exact False.elim hq
def La (X:Cx)(E:XK):Prop:=∀ (pins:List (Addr×Obj)) (σ:St) (H1:Hp) (s1:Shared) (h':Heap) (e C:Addr) (args:List Value),Inv X pins σ H1 s1->Heap.MadeExcOf s1.heap h' e (.ref C) args->E (.ref C) (some e) (upd H1 e (i7 e C none))->X.xe (.ref e) { s1 with heap:=h' }
section
variable {P:Program}{w:World}{K:PySem.W.Frag}{mg:Str->Option Value}{base:Heap}{N:List Str}{qual:Str}{sc:Scope}{f:Addr}{cd:Value}{A:Around}{outer:List Env}{s:Shared}{H:Hp}{E:XK}
theorem Tw:La (cJ (cn P w) P w K mg base N qual sc f cd A outer s H E) E:=by
 intro pins σ H1 s1 h' e C args I hx hE
 show wpAny (model P w) (A.deeper (envOfC qual sc s.heap.objs.size f cd)) (leaving (envOfC qual sc s.heap.objs.size f cd) (.ref e)) _ _ _
 have hL:∀ b o,s.heap.get? b=some o->b ∉ bG outer->b ∉ bG (envOfC qual sc s.heap.objs.size f cd::outer):=fun b o q hb z=>by
  rcases List.mem_cons.mp (I.lR b z) with z | z
  ·have lt:=Nat.lt_of_lt_of_le (Heap.lt_size q) I.ok.above
   rw [z] at lt
   exact absurd lt (Nat.lt_irrefl _)
  ·exact hb z
 have nex:H1 e=none:=by
  cases q:H1 e with
  |none=>rfl
  |some o =>
   obtain ⟨u,hu⟩:=(I.av e o q).there
   rw [hx.new] at hu
   cases hu
 have FF:s1.heap.FunFrames (PySem.W.hideAll s1.heap (bG (envOfC qual sc s.heap.objs.size f cd::outer))) (envOfC qual sc s.heap.objs.size f cd::outer):=PySem.W.funFrames_hide I.stack X8
 have DF:=wpAny_leaves_madeW (M:=model P w) (A:=A.deeper (envOfC qual sc s.heap.objs.size f cd)) (s:={ s1 with heap:=h' }) (E:=fun e' nW=>cn P w outer H s E e' nW) (Q:=fun _ s2=>∃ h2 t,s2={ s1 with heap:=h2 }/\Heap.FlyingW (PySem.W.hideAll s1.heap (bG (envOfC qual sc s.heap.objs.size f cd::outer))) outer e (.ref C) (.ref t) h2/\h'.UpToSlots h2)
  (base:=PySem.W.hideAll s1.heap (bG (envOfC qual sc s.heap.objs.size f cd::outer))) (h:=s1.heap) (args:=args) I.ok.frames rfl (fun b o q=>PySem.W.of_hideAll _ q) FF hx fun h2 t x1 x2 x3 x4=>⟨h2,t,rfl,x1,x4⟩
 obtain ⟨t,ho,_⟩:=hx.there
 have DG:wpAny (model P w) (A.deeper (envOfC qual sc s.heap.objs.size f cd)) (leaving (envOfC qual sc s.heap.objs.size f cd) (.ref e)) (fun _ s2=>lq s2.heap e none) (fun _ _=>True) { s1 with heap:=h' }:=by
  unfold leaving
  exact wpAny_bind (wpAny_mono (Tu (s:={ s1 with heap:=h' }) I.ok.frames (FF.of_keeps fun b o hb _=>⟨o,hx.keeps b o hb,rfl⟩) rfl ho rfl rfl rfl rfl) (fun _ _ z=>vh z) fun _ _ z=>z)
 refine two DF DG ?_
 rintro _ _ ⟨h2,t2,rfl,x1,x4⟩ tr
 refine ⟨e,C,none,H1,rfl,⟨I.os,I.bare,⟨_,_,x1,U3 I,fun b o q n hb=>?_,fun b o q hb=>?_⟩,fun b o q hb=>?_,fun b o q n=>I.base.free b o q n (by simp [cJ]),I.base.eh,I.base.dR,I.base.eu,nex⟩,tr,hE⟩
 ·exact PySem.W.hideAll_get _ (I.base.keep b o q n hb (by simp [cJ])) (hL b o q hb)
 ·obtain ⟨o',q'⟩:=I.base.there b o q (by simp [cJ])
  exact ⟨o',PySem.W.hideAll_get _ q' (hL b o q hb)⟩
 ·have n0:=I.ok.gQ b hb
  obtain ⟨sl,q1⟩:=I.base.slot b o q n0 hb (by simp [cJ])
  obtain ⟨_,o2,fV,hd2⟩:=I.ok.eA.mem hb
  have e2:o2=o:=by
   rw [show (cJ (cn P w) P w K mg base N qual sc f cd A outer s H E).cy=s from rfl,q] at fV
   exact (Option.some.inj fV).symm
  subst e2
  obtain ⟨kY,q2⟩:=x4 b _ (hx.keeps _ _ q1) hd2
  exact ⟨kY,q2⟩
end
def Lb (C:Addr)(E:XK)(ta:TA):TS:=fun _ σ H=>ta σ H fun vs H1=>vs.length<=sizeLine/\∀ e,H1 e=none->E (.ref C) (some e) (upd H1 e (i7 e C none))
section
variable {X:Cx}{E:XK}{C:Addr}{x:Str}{np cR pos:Pos}{w4:Expr}{rest:List Expr}{ta:TA}
theorem Uz (R:La X E)(hc:X.calm=true)(hg:Gl X x)(hm:X.mg x=some (.ref C))(q:PySem.W.excIn X.K C qz "ValueError.__new__" = true)(ha:PA X (w4::rest) ta)(he:starEach (w4::rest) X.env=(false,eval w4 X.env)::starEach rest X.env:=by rfl)(bW:(backTo cR (starEach rest X.env)).any (·.1)=false:=by rfl)(hdb:(x==("__debug__" : Str))=false:=by decide) :
  PS X (.Raise (some (.Call (.Name x np) (w4::rest) [] cR)) none pos) (Lb C E ta):=by
 intro pins s σ H D I h
 obtain ⟨bm,N,nm,qn,bs,hdct,sn,sub,ab,col,dd,k0,k1,k2,k3,k5,mN,hC,hN,hni,T⟩:=Wb I.mod.nR q
 refine wpAny_Raise_call_subT (C:=C) (nm:=nm) (q:=qn) (N:=N) (bs:=bs) (bm:=bm) (hdct:=hdct) (sn:=sn) (sub:=sub) (ab:=ab) (col:=col) (dd:=dd) (k0:=k0) (k1:=k1) (k2:=k2) (k3:=k3) (k5:=k5) PySem.F.excBase_ValueError (mN:=mN)
  (T.hasType PySem.F.excBase_ValueError.hasBase) (I.ok.hd hc) ?_ hni (sd I hg hm ⟨rfl,?_⟩ hdb)
 ·rw [he]
  show (false || (backTo cR (starEach rest X.env)).any (·.1))=false
  rw [bW]
  rfl
 ·have h1:=ha cR pins s σ H _ I h
  rw [he] at h1 ⊢
  refine Calls.evalArgs_plain (ay h1 fun us s2 ⟨vs,H1,I1,r1,hl,q1⟩=>⟨rfl,by rw [<- r1.length];exact hl,I1.bk _ _ hC,hN.keeps I1.bk,T.keeps I1.bk,fun h' e qN=>?_⟩)
  refine R pins σ H1 s2 h' e C us I1 qN (q1 e ?_)
  cases z:H1 e with
  |none=>rfl
  |some o =>
   obtain ⟨u,hu⟩:=(I1.av e o z).there
   rw [qN.new] at hu
   cases hu
end
def jg (G H:Hp)(C:Addr)(E:XK):Prop:=∀ x G' H',Step G H G' H'->H' x=none->E (.ref C) (some x) (upd H' x (i7 x C none))
section
variable (P:Program) (w:World) (K:PySem.W.Frag) (mg:Str->Option Value) (base:Heap) (N:List Str) (qual:Str) (sc:Scope) (f:Addr) (k:Nat)
def uD (bA:List Stmt)(ρ:En)(C:Addr):Prop:=∃ τ:qS k qual sc f->TS,(∀ i,cL (bw P w K mg base N qual sc f k i) bA (τ i))/\∀ i D σ G0 H0 G H,RS K G0 H0 G H ρ σ->jg G0 H0 C i.E->τ i D σ H
end
section
variable {P:Program}{w:World}{K:PySem.W.Frag}{mg:Str->Option Value}{base:Heap}{N:List Str}{qual:Str}{sc:Scope}{f:Addr}{k:Nat}{ρ ρ1:En}{st:Stmt}{bA A B:List Stmt}{C:Addr}{c:Expr}{pos:Pos}
theorem Jp {x n:Str}{j:Nat}{np cR aaf:Pos}(hm:mg x=some (.ref C))(q:PySem.W.excIn K C qz "ValueError.__new__" = true)(hg:∀ i,Gl (bw P w K mg base N qual sc f k i) x:=by intro _;rfl)(hdb:(x==("__debug__" : Str))=false:=by decide):uD P w K mg base N qual sc f k (.Raise (some (.Call (.Name x np) [.Constant (.str n) j aaf] [] cR)) none pos::bA) ρ C:=by
 refine ⟨fun i=>dU (Lb C i.E (bY (tC (.str n)) cI)) fO,fun i=>fm (Uz (X:=bw P w K mg base N qual sc f k i) Tw rfl (hg i) hm q (aF Ls bu) (hdb:=hdb)) jh,fun i D σ G0 H0 G H r kx=>?_⟩
 obtain ⟨fp,r⟩:=r
 have big : 1<=sizeLine:=by decide
 exact ⟨big,fun e he=>kx e G H r.st he⟩
end
def Nn (K:PySem.W.Frag)(D:Addr)(i:Nat)(tb:(St->XK)->TS)(th:Addr->TS):TS:=fun F σ H =>
 tb (fun aA c ax H1=>∃ x C,c=.ref C/\ax=some x/\PySem.W.subIn K (.ref C) (.ref D)=some true /\
  th x { nx:=fun bp H2=>F.nx (bp.set i none) H2,rt:=F.rt,bk:=fun bp H2=>F.bk (bp.set i none) H2,ct:=fun bp H2=>F.ct (bp.set i none) H2 } (aA.set i (some (.ref x))) H1) F σ H
section
variable {X:Cx}{D:Addr}{i:Nat}{n x:Str}{np hpos pos:Pos}{body suite:List Stmt}{b₀:Stmt}{tb:(St->XK)->TS}{th:Addr->TS}{L:Addr}{outer:List Env}
theorem Xc (hN:X.N.Nodup)(hi:X.N[i]?=some n)(hl:X.env.scope.names.lookup n=some .local)(je:X.stack=X.env::outer)(gw:X.env.frame=some L)(hex:X.ex=[])(hg:Gl X x)(hm:X.mg x=some (.ref D))(ht:PySem.W.typeIn X.K (.ref D)=some (.type "type"))(hD:PySem.W.isClsIn X.K D=true)(hb:PySem.W.subIn X.K (.ref D) (.type "BaseException")=some true)(Xd:∀ (E:St->XK) (XE:Value->Shared->Prop) (pn:List (Addr×Obj)),vE (cn X.prog X.w) (X.gM XE pn) E->cL (X.gM XE pn) body (tb E))(Vt:∀ a,cL (X.suite (.ref a)) (b₀::suite) (th a))(hdb:(x==("__debug__" : Str))=false:=by decide) :
  PS X (.Try body [.ExceptHandler (some (.Name x np)) (some n) (b₀::suite) hpos] [] [] pos) (Nn X.K D i tb th):=by
 intro pins s σ H F I h
 refine wpAny_Try_except ?_
 let XE:Value->Shared->Prop:=fun e bt=>wpAny (model X.prog X.w) X.A (noteFrame e X.env) (fun _ kK=>wpAny (model X.prog X.w) X.A (setFlight e none) (fun _ wY =>
  wpAny (model X.prog X.w) X.A (handleBy e X.env [.ExceptHandler (some (.Name x np)) (some n) (b₀::suite) hpos]) (SP X pins F) X.xe wY) X.xe kK) X.xe bt
 have Zy:=Xd _ XE (X.pn++pins) ?pass [] s σ H F (I.gM XE) h
 case pass =>
  rintro sP aA H1 s1 ev s' I1 ⟨a,C,d0,H',rfl,fl,trd,a',C',e1,e2,aag,qV⟩
  cases e1
  cases e2
  have uF:Inv X pins aA H1 s1:=I1.sV
  obtain ⟨B,a0,fw,ok,kp,Qh⟩:=fl.ex
  have Qi:Heap.FlyingW B (X.env::outer) a (.ref C) a0 s'.heap:=je ▸ fw
  show wpAny (model X.prog X.w) X.A (noteFrame (.ref a) X.env) _ _ _
  refine two (Q:=fun _ s4=>∃ h4,s4={ s' with heap:=h4 }/\Heap.HeldW B (X.env::outer) a (.ref C) a0 L h4/\s'.heap.UpToSlots h4) (wpAny_looks_onW (je ▸ I.ok.frames) gw Qi fun DH Bn wH=>⟨DH,rfl,Bn,wH⟩) (Jk (E:=fun _ _=>True) (je ▸ I.ok.frames) gw Qi trd) ?_
  rintro _ _ ⟨DH,rfl,Bn,wH⟩ Yz
  refine two (Q:=fun _ s5=>∃ h5,s5={ s' with heap:=h5 }/\Heap.FlyingW B (X.env::outer) a (.ref C) a0 h5/\DH.UpToSlots h5) (wpAny_landsW Bn fun w8 tj wI=>⟨w8,rfl,tj,wI⟩) (vh (E:=fun _ _=>True) Yz) ?_
  rintro _ _ ⟨w8,rfl,tj,wI⟩ YB
  have next:∀ h6,Heap.FlyingW B (X.env::outer) a (.ref C) a0 h6->s'.heap.UpToSlots h6->Inv X pins aA H' { s' with heap:=h6 }:=fun h6 fw6 sm6=>by
   have hFF:s'.heap.FunFrames B X.stack:=fw.2.2.1
   refine uF.fly (x:=a) (C:=C) ⟨fl.os,fl.bare,⟨B,a0,je ▸ fw6,ok,kp,Qh⟩,fun b o q hb=>?_,fl.free,fl.eh,fl.dR,fl.eu,fl.e8⟩
   obtain ⟨sl,q1⟩:=fl.slot b o q hb
   obtain ⟨_,o2,fV,hd2⟩:=hFF.mem hb
   rw [q1] at fV
   cases fV
   obtain ⟨kY,q2⟩:=sm6 b _ q1 hd2
   exact ⟨kY,q2⟩
  have I5:=next w8 tj (wH.trans wI)
  obtain ⟨oe,he,hec⟩:=tj.there
  refine wpAny_handleBy_cons (codeAny_handlers_test ?_) (by intro q;cases q)
  refine Calls.Name_function_global I.ok.kind hg (Calls.loadGlobal_global (by rw [I.ok.glob];exact I5.mod.glob.keeps I5.bk) hm ?_) hdb
  refine S1 (K:=X.K) I5.cU he hec ht hD hb aag ?_
  refine codeAny_handlers_suite_as ?_
  refine two (Q:=fun _ s6=>∃ h6,s6={ s' with heap:=h6 }/\Heap.FlyingW B (X.env::outer) a (.ref C) a0 h6/\w8.UpToSlots h6) (lands_againW tj fun qE tm CN=>⟨qE,rfl,tm,CN⟩) (vh (E:=fun _ _=>True) YB) ?_
  rintro _ _ ⟨qE,rfl,tm,CN⟩ YC
  have I6:=next qE tm ((wH.trans wI).trans CN)
  obtain ⟨EC,Qj,xY,hc6,ED,h06⟩:=tm.first
  have hx6:EC.dict=d0/\Qj[2]?=some .none:=by
   obtain ⟨o,vs,T,oT,ts,z,z1,z2,_⟩:=YC
   have z:qE.get? a=some o:=z
   rw [xY] at z
   cases z
   rw [ED] at z1
   cases z1
   exact z2
  have xZ:∀ b o,s1.heap.get? b=some o->b ≠ a:=fun b o q z=>by
   subst z
   by_cases hb:b ∈ bG X.stack
   ·obtain ⟨_,o2,fV,hd2⟩:=(show qE.FunFrames B X.stack from je ▸ tm.2.2.1).mem hb
    rw [xY] at fV
    cases fV
    exact hd2 _ ED
   ·obtain ⟨o',q'⟩:=Qh b o q hb
    rw [fw.2.1] at q'
    cases q'
  have h0:X.cy.heap.get? a=none:=by
   cases q:X.cy.heap.get? a with
   |none=>rfl
   |some o =>
    obtain ⟨o',q'⟩:=uF.base.there a o q (by rw [hex];simp)
    exact absurd rfl (xZ a o' q')
  have I7:Inv X pins aA (upd H' a (i7 a C d0)) { s' with heap:=qE }:=by
   refine I6.Ze fl.e8 h0 (fun z=>?_) (fun y c e z=>?_) (fun p hp z=>?_) ⟨⟨EC,Qj,xY,hc6,ED,hx6⟩,⟨EC,xY⟩,fun h1 h2 ⟨o,vs,q1,q2⟩ k=>⟨o,vs,k _ q1,q2⟩⟩
   ·obtain ⟨m,⟨o,_,_,ho,_⟩,_⟩:=uF.loc
    exact xZ _ o ho z.symm
   ·obtain ⟨v,o,ho,_⟩:=uF.cell y c e
    exact xZ c o ho z
   ·exact xZ p.1 p.2 (uF.pin p hp).1 z
  refine Ax I7 hN hi (.inl hl) (v:=.ref a) rfl (fun s8 I8=>?_) (.inr hl)
  refine wpAny_mono (Vt a pins s8 _ _ _ (I8.suite (.ref a)) qV) (fun EE s9 hq=>?_) (fun _ _ z=>False.elim z)
  have x5:X.calm=true->X.A.handled=none:=I.ok.hd
  cases EE with
  |next =>
   obtain ⟨cz,H9,I9,q9⟩:=hq
   exact (I9.vF x5).wV hN hi hl fun kW iJ=>⟨_,_,iJ,q9⟩
  |brk =>
   obtain ⟨cz,H9,I9,q9⟩:=hq
   exact (I9.vF x5).wV hN hi hl fun kW iJ=>⟨_,_,iJ,q9⟩
  |cont =>
   obtain ⟨cz,H9,I9,q9⟩:=hq
   exact (I9.vF x5).wV hN hi hl fun kW iJ=>⟨_,_,iJ,q9⟩
  |ret u =>
   obtain ⟨v,cz,H9,I9,r9,q9⟩:=hq
   exact (I9.vF x5).wV hN hi hl fun kW iJ=>⟨v,_,_,iJ,r9,q9⟩
 refine wpAny_mono Zy (fun EE s9 hq=>?_) (fun e s9 z=>z)
 cases EE with
 |next =>
  obtain ⟨cz,H9,I9,q9⟩:=hq
  exact wpAny_execs_nil ⟨cz,H9,I9.sV,q9⟩
 |brk =>
  obtain ⟨cz,H9,I9,q9⟩:=hq
  exact ⟨cz,H9,I9.sV,q9⟩
 |cont =>
  obtain ⟨cz,H9,I9,q9⟩:=hq
  exact ⟨cz,H9,I9.sV,q9⟩
 |ret u =>
  obtain ⟨v,cz,H9,I9,r9,q9⟩:=hq
  exact ⟨v,cz,H9,I9.sV,r9,q9⟩
end
section
variable {P:Program}{w:World}{K:PySem.W.Frag}{mg:Str->Option Value}{base:Heap}{N:List Str}{qual:Str}{sc:Scope}{f:Addr}{cd:Value}{A:Around}{outer:List Env}{s:Shared}{H:Hp}{E:XK}
theorem IL:Passes (cn P w) (cJ (cn P w) P w K mg base N qual sc f cd A outer s H E) E:=by
 rintro pins σ H1 s1 ev s' I ⟨x,C,d,H',rfl,F,tr,hE⟩
 show wpAny (model P w) (A.deeper (envOfC qual sc s.heap.objs.size f cd)) (leaving (envOfC qual sc s.heap.objs.size f cd) (.ref x)) _ _ _
 have hL:∀ b o,s.heap.get? b=some o->b ∉ bG outer->b ∉ bG (envOfC qual sc s.heap.objs.size f cd::outer):=fun b o q hb z=>by
  rcases List.mem_cons.mp (I.lR b z) with z | z
  ·have lt:=Nat.lt_of_lt_of_le (Heap.lt_size q) I.ok.above
   rw [z] at lt
   exact absurd lt (Nat.lt_irrefl _)
  ·exact hb z
 obtain ⟨B,a0,fl,ok,kp,th⟩:=F.ex
 have DF:=wpAny_leaves_onW (M:=model P w) (A:=A.deeper (envOfC qual sc s.heap.objs.size f cd)) (s:=s') (E:=fun e' nW=>cn P w outer H s E e' nW) (Q:=fun _ s2=>∃ h2,s2={ s' with heap:=h2 }/\Heap.FlyingW B outer x (.ref C) a0 h2/\s'.heap.UpToSlots h2) I.ok.frames rfl fl fun h2 y1 y2=>⟨h2,rfl,y1,y2⟩
 have DG:wpAny (model P w) (A.deeper (envOfC qual sc s.heap.objs.size f cd)) (leaving (envOfC qual sc s.heap.objs.size f cd) (.ref x)) (fun _ s2=>lq s2.heap x d) (fun _ _=>True) s':=by
  unfold leaving
  exact wpAny_bind (wpAny_mono (Jk I.ok.frames rfl fl tr) (fun _ _ z=>vh z) fun _ _ z=>z)
 refine two DF DG ?_
 rintro _ _ ⟨h2,rfl,y1,y2⟩ tr2
 refine ⟨x,C,d,H',rfl,⟨F.os.trans I.os,F.bare,⟨B,a0,y1,ok,fun b o q n hb=>?_,fun b o q hb=>?_⟩,fun b o q hb=>?_,fun b o q n=>?_,fun b xs q=>F.eh b xs (I.base.eh b xs q),fun b o u q=>F.dR b o u (I.base.dR b o u q),fun b ps q=>?_,F.e8⟩,tr2,hE⟩
 ·exact kp b o (I.base.keep b o q n hb (by simp [cJ])) (I.base.free b o q n (by simp [cJ])) (hL b o q hb)
 ·obtain ⟨o',q'⟩:=I.base.there b o q (by simp [cJ])
  exact th b o' q' (hL b o q hb)
 ·have n0:=I.ok.gQ b hb
  obtain ⟨sl,q1⟩:=I.base.slot b o q n0 hb (by simp [cJ])
  have ot:b ∈ bG (envOfC qual sc s.heap.objs.size f cd::outer):=by
   obtain ⟨env,he,hf⟩:=List.mem_filterMap.mp hb
   exact List.mem_filterMap.mpr ⟨env,List.mem_cons_of_mem _ he,hf⟩
  obtain ⟨Qk,q2⟩:=F.slot b _ q1 ot
  obtain ⟨_,o2,fV,hd2⟩:=I.ok.eA.mem hb
  have e2:o2=o:=by
   rw [show (cJ (cn P w) P w K mg base N qual sc f cd A outer s H E).cy=s from rfl,q] at fV
   exact (Option.some.inj fV).symm
  subst e2
  obtain ⟨kY,q3⟩:=y2 b _ q2 hd2
  exact ⟨kY,q3⟩
 ·obtain ⟨o',q'⟩:=I.base.there b o q (by simp [cJ])
  exact F.free b o' q' (I.base.free b o q n (by simp [cJ]))
 ·obtain ⟨m1,e1⟩:=I.base.eu b ps q
  obtain ⟨m2,e2⟩:=F.eu b _ e1
  exact ⟨m1++m2,by rw [e2,Array.append_assoc]⟩
end
def cD (K:PySem.W.Frag)(R:List Dv->(Hp->Hp->XK->Prop)->Prop):Sp:=fun vs H _ E=>∃ G ds Ξ,ai G H/\aO K G ds vs/\R ds Ξ/\Ξ G H E
def Later (Ξ:Hp->Hp->XK->Prop):Prop:=∀ G H G' H' E,Step G H G' H'->Ξ G H E->Ξ G' H' E
theorem sx {C:Addr}:Later fun G H E=>jg G H C E:=fun _ _ _ _ _ st k x G' H' s' h=>k x G' H' (st.trans s') h
section
variable (P:Program) (w:World) (K:PySem.W.Frag) (mg:Str->Option Value) (base:Heap) (N:List Str) (qual:Str) (sc:Scope) (f:Addr) (k:Nat)
def lC (bA:List Stmt)(ρ:En)(Ξ:Hp->Hp->XK->Prop):Prop:=∃ τ:qS k qual sc f->TS,(∀ i,cL (bw P w K mg base N qual sc f k i) bA (τ i))/\∀ i D σ G0 H0 G H,RS K G0 H0 G H ρ σ->Ξ G0 H0 i.E->τ i D σ H
end
section
variable {P:Program}{w:World}{K:PySem.W.Frag}{mg:Str->Option Value}{base:Heap}{N:List Str}{qual:Str}{sc:Scope}{f:Addr}{k:Nat}{ρ ρ1:En}{st:Stmt}{bA A B:List Stmt}{C:Addr}{c:Expr}{pos:Pos}{Ξ:Hp->Hp->XK->Prop}
theorem uD.g (h:uD P w K mg base N qual sc f k bA ρ C):lC P w K mg base N qual sc f k bA ρ fun G H E=>jg G H C E:=h
theorem JW (h1:Rn (mz P w K mg base N qual sc f k) st ρ (.nx ρ1))(h2:lC P w K mg base N qual sc f k bA ρ1 Ξ):lC P w K mg base N qual sc f k (st::bA) ρ Ξ:=by
 obtain ⟨τ,x,y⟩:=h1
 obtain ⟨bK,x',y'⟩:=h2
 exact ⟨fun i=>dU τ (bK i),fun i=>fm (PS.e8 (x i)) (x' i),fun i D σ G0 H0 G H r kx=>y _ σ G0 H0 G H r fun aA G1 H1 r1=>y' i D aA G0 H0 G1 H1 r1 kx⟩
theorem Ms (hc:cX (mz P w K mg base N qual sc f k) c ρ true)(h:lC P w K mg base N qual sc f k A ρ Ξ):lC P w K mg base N qual sc f k (.If c A B pos::bA) ρ Ξ:=by
 obtain ⟨τ,y,z⟩:=hc
 obtain ⟨bK,x',y'⟩:=h
 refine ⟨fun i=>dU (nH τ (bK i) fO) fO,fun i=>fm (sQ (PT.e8 (y i)) (x' i) jh) jh,fun i D σ G0 H0 G H r kx=>?_⟩
 obtain ⟨fp,r⟩:=r
 exact z σ G H fp _ r.st.s r.own r.g fun G1 H1 s1=>i6 (y' i _ σ G0 H0 G1 H1 ⟨fp,r.st.trans s1,r.own.mono s1.g s1.h,r.own.off s1 r.g,r.n,r.d⟩ kx)
theorem Lc {g:Str}{j:Nat}{f':Addr}{ou:FuncData}{dN:List Str}{R:List Dv->(Hp->Hp->XK->Prop)->Prop}{e:Expr}{es:List Expr}{ts:List Tr}{p2 p3:Pos}(Fn:Kn P w K mg base (cn P w) j g f' ou dN (cD K R))(hj:j<=k)(ha:eG (mz P w K mg base N qual sc f k) (e::es) (pk ρ) ts)(hR:R (cE ts) Ξ)(la:Later Ξ)(hg:∀ i,Gl (bw P w K mg base N qual sc f k i) g:=by intro _;rfl)(lD:(g==("__debug__" : Str))=false:=by decide)(he:∀ i,starEach (e::es) (bw P w K mg base N qual sc f k i).env=(false,eval e (bw P w K mg base N qual sc f k i).env)::starEach es (bw P w K mg base N qual sc f k i).env:=by intro _;rfl)(bW:∀ i,(backTo p3 (starEach es (bw P w K mg base N qual sc f k i).env)).any (·.1)=false:=by intro _;rfl) :
  ∃ τ:qS k qual sc f->TE,(∀ i,PE (bw P w K mg base N qual sc f k i) (.Call (.Name g p2) (e::es) [] p3) (τ i))/\∀ i (Q:VK) σ G0 H0 G H,RS K G0 H0 G H ρ σ->Ξ G0 H0 i.E->τ i σ H Q:=by
 obtain ⟨ta,ya,za⟩:=ha.use
 have EF:∀ i,PA (bw P w K mg base N qual sc f k i) (e::es) ta:=fun i p pins s σ H Q I hw=>wpAny_mono (ya i p pins s σ H Q (I.fD _) hw) (fun _ _ ⟨v,H',I',r,q⟩=>⟨v,H',I'.hZ,r,q⟩) fun _ _ z=>False.elim z
 refine ⟨fun i=>kE (cD K R) [] (fun _=>i.E) ta,fun i=>AB (X:=bw P w K mg base N qual sc f k i) Fn.ok (i.hr.mono hj) (hg i) Fn.mL Fn.kp Fn.bd .nil (Passes.s IL) (EF i) lD (he i) (bW i),fun i Q σ G0 H0 G H r kx=>?_⟩
 obtain ⟨fp,r⟩:=r
 have s0:Step G0 H0 (dk G H fp) H:=r.st.cK ⟨r.n,r.g,r.d⟩
 refine za σ (dk G H fp) H _ (lN r.st.s) (r.own.pk (g9 r.g) fun a ha=>iU ha) fun vs G1 H1 s1 hx=>?_
 exact ⟨G1,cE ts,Ξ,s1.s,by rw [List.append_nil];exact hx,hR,la _ _ _ _ _ (s0.trans s1) kx⟩
theorem Bo {g yn:Str}{j jn:Nat}{f':Addr}{ou:FuncData}{dN:List Str}{R:List Dv->(Hp->Hp->XK->Prop)->Prop}{e:Expr}{es:List Expr}{ts:List Tr}{p1 p2 p3:Pos}(Fn:Kn P w K mg base (cn P w) j g f' ou dN (cD K R))(hj:j<=k)(ha:eG (mz P w K mg base N qual sc f k) (e::es) (pk ρ) ts)(hR:R (cE ts) Ξ)(la:Later Ξ)(hN:N.Nodup)(jn:Nat)(xU:N[jn]?=some yn:=by rfl)(hl:∀ i,Loc (bw P w K mg base N qual sc f k i).env.scope yn:=by intro _;first | exact Or.inl rfl | exact Or.inr rfl)(hg:∀ i,Gl (bw P w K mg base N qual sc f k i) g:=by intro _;rfl)(lD:(g==("__debug__" : Str))=false:=by decide)(he:∀ i,starEach (e::es) (bw P w K mg base N qual sc f k i).env=(false,eval e (bw P w K mg base N qual sc f k i).env)::starEach es (bw P w K mg base N qual sc f k i).env:=by intro _;rfl)(bW:∀ i,(backTo p3 (starEach es (bw P w K mg base N qual sc f k i).env)).any (·.1)=false:=by intro _;rfl)(gx:∀ i,swapsWith (.Call (.Name g p2) (e::es) [] p3) (some (.Name yn p1)) pos.line (bw P w K mg base N qual sc f k i).env=pure false:=by intro _;rfl) :
  lC P w K mg base N qual sc f k (.Assign [.Name yn p1] (.Call (.Name g p2) (e::es) [] p3) pos::bA) ρ Ξ:=by
 obtain ⟨τ,x,y⟩:=Lc (p2:=p2) (p3:=p3) Fn hj ha hR la hg lD he bW
 exact ⟨fun i=>dU (i3 (τ i) (cZ jn)) fO,fun i=>fm (ji (X:=bw P w K mg base N qual sc f k i) hN xU (hl i) (x i) (gx i) (.inl rfl)) jh,fun i D σ G0 H0 G H r kx=>y i _ σ G0 H0 G H r kx⟩
theorem pL {x:Str}{st:Stmt}{dV:Value}{fd:FuncData}{ps:List Str}{R:List Dv->(Hp->Hp->XK->Prop)->Prop}(Fd:iw K x qual st dV f fd)(S:bj N ps (ah st))(hl:∀ dd Ξ,R dd Ξ->dd.length=ps.length)(hb:∀ dd Ξ,R dd Ξ->lC P w K mg base N qual (ah st) f k (aN st) (xN N dd) Ξ):aM P w K mg base (cn P w) (k+1) f fd ps (cD K R):=by
 refine Fd.gY S (fun vs H Q E ⟨G,dd,Ξ,s,h1,h2,h3⟩=>by rw [<- h1.length];exact hl dd Ξ h2) fun aU A outer s H vs Q E hr h=>?_
 obtain ⟨G,dd,Ξ,s',h1,h2,h3⟩:=h
 obtain ⟨τ,x,y⟩:=hb dd Ξ h2
 refine ⟨_,x ⟨aU,A,outer,s,H,E,hr⟩,y ⟨aU,A,outer,s,H,E,hr⟩ _ (start N vs) G H G H ⟨[],.refl s',?_,fun _ z=>(nomatch z),fun _ z=>(nomatch z),.nil⟩ h3⟩
 unfold start xN
 rw [<- h1.length]
 exact Ae h1
end
def Np (Ξ:Hp->Hp->XK->Prop)(C:Addr)(W:Hp->Addr->Prop):Prop:=∀ G H (E:XK),(∀ x H2,ai H H2->W H2 x->E (.ref C) (some x) H2)->Ξ G H E
theorem Ld {C:Addr}:Np (fun G H E=>jg G H C E) C fun H x=>H x=some (i7 x C none):=fun G H E h x G' H' st hx=>h x _ (st.h.trans (ai.new hx)) bE
theorem du.Zz {K:PySem.W.Frag}{G0 H0 G H:Hp}{ρ:En}{σ:St}{fp:List Addr}{j:Nat}{t:Tr}(r:du K G0 H0 G H ρ σ fp)(hj : ρ[j]?=some (some t)) :
  ∃ v f,σ[j]?=some (some v)/\Ow K G H t v f/\f.Nodup/\∀ H2 t2,Md f H H2->Ow K G H2 t2 v f->RS K G0 H0 G H2 (ρ.set j (some t2)) σ:=by
 obtain ⟨v,f,fr,a1,a2,a3,a4⟩:=r.own.split hj
 have dC:=List.nodup_append.mp (a4.nodup_iff.mp r.d)
 have lg:∀ a ∈ f,a ∈ fp:=fun a ha=>a4.mem_iff.mpr (List.mem_append_left _ ha)
 have ltj:j < ρ.length:=(List.getElem?_eq_some_iff.mp hj).1
 refine ⟨v,f,a1,a2,dC.1,fun H2 t2 m o2=>?_⟩
 have q3:aJ K G H2 (ρ.set j none) σ fr:=a3.agree fun a ha=>by
  obtain ⟨o,ho⟩:=a3.there a ha
  rw [m a o (fun z=>dC.2.2 a z a ha rfl) ho,ho]
 obtain ⟨Ql,p1,p2⟩:=q3.put (rq ltj) o2
 rw [List.set_set,vv a1] at p1
 have pm:∀ a,a ∈ Ql->a ∈ fp:=fun a ha=>a4.mem_iff.mpr (p2.mem_iff.mp ha)
 exact ⟨Ql,⟨r.st.g,fun b u hb=>m b u (fun z=>by rw [r.n b (lg b z)] at hb;cases hb) (r.st.h b u hb),fun b u hb=>m b u (fun z=>by rw [r.g b (lg b z)] at hb;cases hb) (r.st.s b u hb),r.st.n⟩,p1,fun a ha=>r.g a (pm a ha),fun a ha=>r.n a (pm a ha),p2.nodup_iff.mpr (a4.nodup_iff.mp r.d)⟩
theorem Al {K:PySem.W.Frag}{G H:Hp}(l:List Int):aG K G H (l.map fun n=>Tr.fz (di n)) (l.map V.int) []:=by
 have:=(rU (K:=K) (G:=G) (ns:=l)).gW (H:=H)
 rw [jW] at this
 exact this
theorem Jq {K:PySem.W.Frag}{G H:Hp}:∀ (ps:List (Addr×List Int)),(∀ p ∈ ps,H p.1=some (.lst (p.2.map V.int)))->aG K G H ((ps.map fun p=>p.2).map aR) (ps.map fun p=>V.ref p.1) (ps.map fun p=>p.1)
 |[],_=>⟨rfl,rfl⟩
 |p::ps,h=>⟨.ref p.1,_,[p.1],_,rfl,rfl,⟨p.1,_,[],rfl,h p (.head _),Al _,rfl⟩,Jq ps fun q hq=>h q (.tail _ hq)⟩
theorem B7 {K:PySem.W.Frag}{G H:Hp}{cs:List Int}{os:List (List Int)}{v:V}{f:List Addr}(h:Ow K G H (.tp [aR cs,d9 os]) v f):∃ (p a b:Addr) (ps:List (Addr×List Int)),v=.ref p/\f=p::a::b::ps.map (·.1)/\H p=some (.tup [.ref a,.ref b])/\H a=some (.lst (cs.map V.int))/\H b=some (.lst (ps.map fun p=>V.ref p.1))/\ps.map (·.2)=os/\∀ p ∈ ps,H p.1=some (.lst (p.2.map V.int)):=by
 obtain ⟨p,vs,fx,rfl,hp,ol,rfl⟩:=h
 obtain ⟨va,r1,fa,fa',rfl,rfl,oa,ol⟩:=ol
 obtain ⟨vb,r2,fb,fb',rfl,rfl,ob,ol⟩:=ol
 obtain ⟨rfl,rfl⟩:=ol
 obtain ⟨a,xs,fx,rfl,ha,oa,rfl⟩:=oa
 obtain ⟨rfl,rfl⟩:=vN oa
 obtain ⟨b,ys,fy,rfl,hb,ob,rfl⟩:=ob
 obtain ⟨ps,rfl,rfl,e,hps⟩:=Bk ob
 exact ⟨p,a,b,ps,rfl,by rw [List.append_nil];rfl,hp,ha,hb,e,hps⟩
theorem Mt {K:PySem.W.Frag}{G H:Hp}{cs:List Int}{p a b:Addr}{ps:List (Addr×List Int)}(hp:H p=some (.tup [.ref a,.ref b]))(ha:H a=some (.lst (cs.map V.int)))(hb:H b=some (.lst (ps.map fun p=>V.ref p.1)))(hps:∀ p ∈ ps,H p.1=some (.lst (p.2.map V.int))):Ow K G H (.tp [aR cs,d9 (ps.map (·.2))]) (.ref p) (p::a::b::ps.map (·.1)) :=
 ⟨p,_,a::b::ps.map (·.1),rfl,hp,⟨.ref a,_,[a],b::ps.map (·.1),rfl,rfl,⟨a,_,[],rfl,ha,Al cs,rfl⟩,.ref b,[],b::ps.map (·.1),[],rfl,by rw [List.append_nil],⟨b,_,_,rfl,hb,Jq ps hps,rfl⟩,rfl,rfl⟩,rfl⟩
section
variable {ι:Type}{F:aY ι}{ρ:En}{pos:Pos}{st:Stmt}
theorem Xe (j:Nat){cs:List Int}{os:List (List Int)}{c:Int}(h : ρ[j]?=some (some (.tp [aR cs,d9 os])))(hz:cs.length<sizeLine)(hps:∀ i,PS (F.cx i) st (gL (jz F.K "list" sf (iF (tH F.K) (bT j) (tC (.int 0))) (bY (tC (.int c)) cI)))):Rn F st ρ (.nx (ρ.set j (some (.tp [aR (cs++[c]),d9 os])))):=by
 refine ⟨_,hps,fun D σ G0 H0 G H r k=>?_⟩
 obtain ⟨fp,r⟩:=r
 obtain ⟨v,f,s1,o1,nd,sw⟩:=r.Zz h
 obtain ⟨p,a,b,ps,rfl,rfl,hp,ha,hb,rfl,hps⟩:=B7 o1
 have n1:=List.nodup_cons.mp nd
 have n2:=List.nodup_cons.mp n1.2
 have pa:p ≠ a:=fun z=>n1.1 (z ▸ .head _)
 have ab:b ≠ a:=fun z=>n2.1 (z ▸ .head _)
 have ap:∀ q ∈ ps,q.1 ≠ a:=fun q hq z=>n2.1 (.tail _ (z ▸ List.mem_map_of_mem (f:=(·.1)) hq))
 refine ⟨_,s1,p,_,0,.ref a,rfl,rfl,cM.of hp,rfl,.inl ⟨rfl,_,aH.of ha⟩,a,_,_,rfl,rfl,ha,by rw [List.length_map];exact hz,?_⟩
 refine k σ G _ (sw _ _ (.upd (.tail _ (.head _))) (Mt (by rw [aP pa];exact hp) (by rw [bE,List.map_append];rfl) (by rw [aP ab];exact hb) fun q hq=>by rw [aP (ap q hq)];exact hps q hq))
end
section
variable {P:Program}{w:World}{K:PySem.W.Frag}{mg:Str->Option Value}{base:Heap}{N:List Str}{qual:Str}{sc:Scope}{f:Addr}{k:Nat}{ρ ρ1:En}{st:Stmt}{bA A B:List Stmt}{C:Addr}{c b:Expr}{pos:Pos}{Ξ:Hp->Hp->XK->Prop}
theorem UA {g yn:Str}{j jn:Nat}{f':Addr}{ou:FuncData}{dN:List Str}{R:List Dv->(Hp->Hp->XK->Prop)->Prop}{e:Expr}{es:List Expr}{ts:List Tr}{p1 p2 p3 p4:Pos}(hc:cX (mz P w K mg base N qual sc f k) c ρ true)(Fn:Kn P w K mg base (cn P w) j g f' ou dN (cD K R))(hj:j<=k)(ha:eG (mz P w K mg base N qual sc f k) (e::es) (pk ρ) ts)(hR:R (cE ts) Ξ)(la:Later Ξ)(hN:N.Nodup)(jn:Nat)(xU:N[jn]?=some yn:=by rfl)(hl:∀ i,Loc (bw P w K mg base N qual sc f k i).env.scope yn:=by intro _;first | exact Or.inl rfl | exact Or.inr rfl)(hg:∀ i,Gl (bw P w K mg base N qual sc f k i) g:=by intro _;rfl)(lD:(g==("__debug__" : Str))=false:=by decide)(he:∀ i,starEach (e::es) (bw P w K mg base N qual sc f k i).env=(false,eval e (bw P w K mg base N qual sc f k i).env)::starEach es (bw P w K mg base N qual sc f k i).env:=by intro _;rfl)(bW:∀ i,(backTo p3 (starEach es (bw P w K mg base N qual sc f k i).env)).any (·.1)=false:=by intro _;rfl)(gx:∀ i,swapsWith (.IfExp c (.Call (.Name g p2) (e::es) [] p3) b p4) (some (.Name yn p1)) pos.line (bw P w K mg base N qual sc f k i).env=pure false:=by intro _;rfl) :
  lC P w K mg base N qual sc f k (.Assign [.Name yn p1] (.IfExp c (.Call (.Name g p2) (e::es) [] p3) b p4) pos::bA) ρ Ξ:=by
 obtain ⟨uG,yc,zc⟩:=hc
 obtain ⟨τ,x,y⟩:=Lc (p2:=p2) (p3:=p3) Fn hj ha hR la hg lD he bW
 refine ⟨fun i=>dU (i3 (xx uG (τ i) _) (cZ jn)) fO,fun i=>fm (ji (X:=bw P w K mg base N qual sc f k i) hN xU (hl i) (Ay (PT.e8 (yc i)) (x i) rV) (gx i) (.inl rfl)) jh,fun i D σ G0 H0 G H r kx=>?_⟩
 obtain ⟨fp,r⟩:=r
 exact zc σ G H fp _ r.st.s r.own r.g fun G1 H1 s1=>i6 (y i _ σ G0 H0 G1 H1 ⟨fp,r.st.trans s1,r.own.mono s1.g s1.h,r.own.off s1 r.g,r.n,r.d⟩ kx)
end
theorem Bp {K:PySem.W.Frag}{G:Hp}{d2:List Dv}{v2:List V}(h2:aO K G d2 v2):∀ {d1:List Dv} {v1:List V},aO K G d1 v1->aO K G (d1++d2) (v1++v2)
 |[],v1,h=>by
  have h':v1=[]:=h
  subst h'
  exact h2
 |d::d1,_,⟨x,r,h1,jA,h3⟩=>by
  subst h1
  exact ⟨x,_,rfl,jA,Bp h2 h3⟩
section
variable {ι:Type}{F:aY ι}{ρ ρ':En}{D:Addr}{i:Nat}{n x:Str}{np hpos pos:Pos}{suite A B:List Stmt}{b₀:Stmt}{x6:Expr}
theorem JX {C:Addr}{W:Hp->Addr->Prop}{Ξ:Hp->Hp->XK->Prop}{g:Str}{k:Nat}{f:Addr}{fd:FuncData}{ps:List Str}{R:List Dv->(Hp->Hp->XK->Prop)->Prop}{e:Expr}{es:List Expr}{ts:List Tr}{p2 p3 p4 p5:Pos}{th:Addr->TS}{dvs:List V}{dst:List Value}{dd:List Dv}(c:P9 F.K F.mg x D)(i:Nat)(b:Bool)(hc:cX (mw F) x6 ρ b)(hX:(bif b then A else B)=[.Expr (.Call (.Name g p2) (e::es) [] p3) p4])(Fn:Kn F.P F.w F.K F.mg F.base (cn F.P F.w) k g f fd ps (cD F.K R))(Bd:Binds F.K fd ps dst)(hd:Vals dvs dst)(hvd:∀ G,aO F.K G dd dvs)(hk:k<=F.room)(ha:eG (mw F) (e::es) (pk ρ) ts)(hR:R (cE ts++dd) Ξ)(la:Np Ξ C W)(sub:PySem.W.subIn F.K (.ref C) (.ref D)=some true)(uH : ρ[i]?=some none)(aah : ρ'[i]?=some none)(qV:∀ q a,cL ((F.cx q).suite (.ref a)) (b₀::suite) (th a))(hs:∀ (E:Ends) σ G0 H0 G H a,RS F.K G0 H0 G H ρ σ->σ[i]?=some (some (.ref a))->W H a->(∀ az G' H',RS F.K G0 H0 G' H' ρ' az->E.nx az H')->th a E σ H)(hN:∀ q,(F.cx q).N.Nodup)(gx:∀ q:uw ι,swapsWith (.Call (.Name g p2) (e::es) [] p3) none p4.line ((mw F).cx q).env=pure false:=by intro _;rfl)(hgg:∀ q:uw ι,Gl ((mw F).cx q) g:=by intro _;rfl)(lD:(g==("__debug__" : Str))=false:=by decide)(he:∀ q:uw ι,starEach (e::es) ((mw F).cx q).env=(false,eval e ((mw F).cx q).env)::starEach es ((mw F).cx q).env:=by intro _;rfl)(bW:∀ q:uw ι,(backTo p3 (starEach es ((mw F).cx q).env)).any (·.1)=false:=by intro _;rfl)(hi:∀ q,(F.cx q).N[i]?=some n:=by intro _;rfl)(hl:∀ q,(F.cx q).env.scope.names.lookup n=some .local:=by intro _;rfl)(je:∀ q,∃ outer,(F.cx q).stack=(F.cx q).env::outer:=by intro _;exact ⟨_,rfl⟩)(gw:∀ q,∃ L,(F.cx q).env.frame=some L:=by intro _;exact ⟨_,rfl⟩)(hex:∀ q,(F.cx q).ex=[]:=by intro _;rfl)(hg:∀ q,Gl (F.cx q) x:=by intro _;rfl)(hdb:(x==("__debug__" : Str))=false:=by decide) :
  Rn F (.Try [.If x6 A B p5] [.ExceptHandler (some (.Name x np)) (some n) (b₀::suite) hpos] [] [] pos) ρ (.nx ρ'):=by
 obtain ⟨uG,yc,zc⟩:=hc
 obtain ⟨ta,ya,za⟩:=ha.use
 refine ⟨Nn F.K D i (fun E=>nH uG (bif b then gL (kE (cD F.K R) dvs E ta) else fO) (bif b then fO else gL (kE (cD F.K R) dvs E ta))) th,fun q=>?_,fun E σ G0 H0 G H r kk=>?_⟩
 ·obtain ⟨outer,je⟩:=je q
  obtain ⟨L,gw⟩:=gw q
  have iK:Kn (F.cx q).prog (F.cx q).w (F.cx q).K (F.cx q).mg (F.cx q).base (cn (F.cx q).prog (F.cx q).w) k g f fd ps (cD F.K R):=by
   rw [F.hP q,F.hw q,F.hK q,F.hm q,F.hb q]
   exact Fn
  have kH:∀ E XE pn,vE (cn (F.cx q).prog (F.cx q).w) ((F.cx q).gM XE pn) E->cL ((F.cx q).gM XE pn) [.If x6 A B p5] (nH uG (bif b then gL (kE (cD F.K R) dvs E ta) else fO) (bif b then fO else gL (kE (cD F.K R) dvs E ta))):=fun E XE pn hx=>by
   have Nq:=(jT (lQ (X:=(F.cx q).gM XE pn) (AB (X:=(F.cx q).gM XE pn) iK.ok ((F.hr q).mono hk) (hgg ⟨q,XE,pn⟩) iK.mL iK.kp (by rw [show ((F.cx q).gM XE pn).K=F.K from F.hK q];exact Bd) hd hx (ya ⟨q,XE,pn⟩) lD (he ⟨q,XE,pn⟩) (bW ⟨q,XE,pn⟩)) (gx ⟨q,XE,pn⟩)))
   cases b with
   |true=>rw [show A=_ from hX];exact jT (sQ (X:=(F.cx q).gM XE pn) (yc ⟨q,XE,pn⟩) Nq jh)
   |false=>rw [show B=_ from hX];exact jT (sQ (X:=(F.cx q).gM XE pn) (yc ⟨q,XE,pn⟩) jh Nq)
  have:=Xc (X:=F.cx q) (D:=D) (i:=i) (n:=n) (x:=x) (np:=np) (hpos:=hpos) (pos:=pos) (body:=[.If x6 A B p5]) (suite:=suite) (b₀:=b₀) (tb:=fun E=>nH uG (bif b then gL (kE (cD F.K R) dvs E ta) else fO) (bif b then fO else gL (kE (cD F.K R) dvs E ta))) (th:=th) (hN q) (hi q) (hl q) je gw (hex q) (hg q) (by rw [F.hm q];exact c.g) (by rw [F.hK q];exact c.t) (by rw [F.hK q];exact c.i) (by rw [F.hK q];exact c.e) (fun E XE pn hx=>kH E XE pn hx) (qV q) hdb
  rw [F.hK q] at this
  exact this
 ·obtain ⟨fp,r⟩:=r
  refine zc σ G H fp _ r.st.s r.own r.g fun G2 H2 s2=>?_
  refine (fun z=>by cases b;exact kg z;exact i6 z:∀ _,_) ?_
  have r:du F.K G0 H0 G2 H2 ρ σ fp:=⟨r.st.trans s2,r.own.mono s2.g s2.h,r.own.off s2 r.g,r.n,r.d⟩
  refine za σ (dk G2 H2 fp) H2 _ (lN r.st.s) (r.own.pk (g9 r.g) fun a ha=>iU ha) fun vs G1 H1 s1 hx=>?_
  refine ⟨G1,cE ts++dd,Ξ,s1.s,Bp (hvd _) hx,hR,la _ _ _ fun a H3 s3 ha3=>⟨a,C,rfl,rfl,sub,?_⟩⟩
  have sH:ai H2 H3:=s1.h.trans s3
  have r2:du F.K G0 H0 G2 H3 ρ (σ.set i (some (.ref a))) fp:=⟨r.st.trans ⟨ai.refl _,sH,r.st.s.trans sH,fun a h h'=>absurd h h'⟩,(r.own.mono (ai.refl _) sH).qC uH,r.g,r.n,r.d⟩
  have li:i < σ.length:=by rw [<- r.own.len];exact (List.getElem?_eq_some_iff.mp uH).1
  refine hs _ _ G0 H0 G2 _ a ⟨fp,r2⟩ (by rw [List.getElem?_set];simp [li]) ha3 fun az G' H' r'=>?_
  exact kk _ G' H' (r'.qC aah)
end
section
variable {ι:Type}{F:aY ι}{ρ:En}{e:Expr}{es:List Expr}{ts:List Tr}{t:Tr}{pos:Pos}
theorem Vu {k:Nat}{f:Addr}{fd:FuncData}{ps:List Str}{R:List Dv->Tr->Prop}{x:Str}{s:Str}{tk:Tok}(Fn:Kn F.P F.w F.K F.mg F.base ao k x f fd ps (spT F.K R))(B:Binds F.K fd ps [.str s tk])(hk:k<=F.room)(ha:eG F (e::es) ρ ts)(hR:R (cE ts++[ds s]) t){p':Pos}(hg:∀ i,Gl (F.cx i) x:=by intro _;rfl)(hdb:(x==("__debug__" : Str))=false:=by decide)(he:∀ i,starEach (e::es) (F.cx i).env=(false,eval e (F.cx i).env)::starEach es (F.cx i).env:=by intro _;rfl)(bW:∀ i,(backTo pos (starEach es (F.cx i).env)).any (·.1)=false:=by intro _;rfl):Ev F (.Call (.Name x p') (e::es) [] pos) ρ t:=by
 obtain ⟨τ,y,z⟩:=ha.use
 refine ⟨kG (spT F.K R) [.str s] E0 τ,fun i=>?_,fun σ G H Q s' rr k=>z σ G H _ s' rr fun vs G1 H1 s1 hx=>?_⟩
 ·have iK:Kn (F.cx i).prog (F.cx i).w (F.cx i).K (F.cx i).mg (F.cx i).base ao k x f fd ps (spT F.K R):=by
   rw [F.hP i,F.hw i,F.hK i,F.hm i,F.hb i]
   exact Fn
  exact Ba iK.ok ((F.hr i).mono hk) (hg i) iK.mL iK.kp (by rw [F.hK i];exact B) (.cons ⟨tk,rfl⟩ .nil) CB (y i) hdb (he i) (bW i)
 ·show spT F.K R (vs++[.str s]) H1 Q E0
  have h2:aO F.K G1 [ds s] [.str s]:=⟨_,_,rfl,⟨rfl,rfl⟩,rfl⟩
  exact ⟨G1,_,t,s1.s,Bp h2 hx,hR,k.step s1⟩
end
end L2
namespace bM
open PySem L2 eJ
def top (i:Nat):Stmt:=PySem.Challenge.pw_lotmeal_k50_lies_refused.main.body.getD i (.Pass ⟨0,0,0,0⟩)
structure Txt (mg:Str->Option Value):Prop where
 fK:mg "isinstance" = none
 ZA:mg "int" = none
 YD:mg "bool" = none
 j7:mg "list" = none
 Xf:mg "tuple" = none
 cg:mg "len" = none
 fM:mg "range" = none
 ZC:mg "zip" = none
 rD:mg "enumerate" = none
 JY:mg "sorted" = none
 Nr:mg "abs" = none
 aeY:mg "sum" = none
 aeZ:mg "max" = none
 ae0:mg "min" = none
 ae1:mg "all" = none
 CO:mg "any" = none
 ZD:mg "set" = none
 oQ:∃ tk,mg "MOST_TURNS" = some (.int 5 tk)
 sO:∃ tk,mg "MOST" = some (.int 6 tk)
 rA:∃ tk,mg "MOST_COUNT" = some (.int 9 tk)
 oJ:∃ tk,mg "MOST_THINGS" = some (.int 4 tk)
section
variable {P:Program}{w:World}{K:PySem.W.Frag}{mg:Str->Option Value}{base:Heap}
def aB (n:Nat):List Int:=(List.range n).map fun i=>0+((i:Nat):Int)
theorem gg {n:Nat}{x:Int}:x ∈ aB n ↔ 0<=x/\x<n:=by
 unfold aB
 constructor
 ·intro h
  obtain ⟨i,hi,rfl⟩:=List.mem_map.mp h
  have:=List.mem_range.mp hi
  omega
 ·rintro ⟨h0,h1⟩
  exact List.mem_map.mpr ⟨x.toNat,List.mem_range.mpr (by omega),by omega⟩
theorem Tx (n:Nat):(aB n).Nodup:=by
 unfold aB
 rw [List.nodup_iff_pairwise_ne,List.pairwise_map]
 exact (List.nodup_range (n:=n)).imp fun h z=>h (by omega)
abbrev oK:Stmt:=top 17
theorem uZ:bj ["one", "other", "rest"] ["one", "other"] (ah oK):=⟨rfl,rfl,rfl,by decide +kernel,rfl,by decide +kernel,by decide +kernel⟩
def Nt (dd:List Dv)(t:Tr):Prop:=∃ a b:Int,0<=a/\0<=b/\dd=[di a,di b]/\t=ti (gc a b)
theorem RP {f:Addr}{fd:FuncData}{k:Nat}(F:bg K "common_part" "common_part" oK f fd)(T:Txt mg):aM P w K mg base ao (k+1) f fd ["one", "other"] (spT K Nt):=by
 refine bD F.d uZ (fun dd t h=>by obtain ⟨_,_,_,_,rfl,_⟩:=h;rfl) fun dd t h=>?_
 obtain ⟨a,b,ha,hb,rfl,rfl⟩:=h
 refine ⟨_,.inl rfl,?_⟩
 refine Io (fun p:Int×Int=>[some (ti p.1),some (ti p.2),none]) (fun p=>0<=p.1/\0<=p.2/\gc p.1 p.2=gc a b) (fun p=>!decide (p.2=0)) (fun p=>p.2.toNat) (a,b) rfl ⟨ha,hb,rfl⟩ (fun p hp=>Et.s (wt (ae 1 rfl) ak)) (fun p hp h=>?_) (fun p hp h=>?_)
 ·obtain ⟨x,y⟩:=p
  obtain ⟨h1,h2,h3⟩:=hp
  have hy:y ≠ 0:=by simpa using h
  have jA : 0<=y:=h2
  have l1:=Int.emod_lt_of_pos x (show 0<y by omega)
  have l2:=Int.emod_nonneg x hy
  refine ⟨(y,x % y),⟨h2,l2,?_⟩,?_,bC.fg (aw (aQ 2 (Ev.s (eU (ae 0 rfl) (ae 1 rfl) (by omega))) (fun _=>uZ.nd)) (aw (aQ 0 (Ev.s (ae 1 rfl)) (fun _=>uZ.nd)) (aK (aQ 1 (Ev.s (ae 2 rfl)) (fun _=>uZ.nd))))) ⟨[2],rfl⟩⟩
  ·show gc y (x % y)=_
   rw [Wg];exact h3
  ·show (x % y).toNat<y.toNat
   omega
 ·obtain ⟨x,y⟩:=p
  obtain ⟨h1,h2,h3⟩:=hp
  have hy0:y=0:=by simpa using h
  have uj:gc x y=gc a b:=h3
  have qL : 0<=x:=h1
  have e:gc a b=x:=by rw [<- uj,hy0,Wf];omega
  rw [e]
  exact aK (cf (Ev.s (ae 0 rfl)))
abbrev oZ:Stmt:=top 16
theorem S5:bj ["number"] ["number"] (ah oZ):=⟨rfl,rfl,rfl,by decide +kernel,rfl,by decide +kernel,by decide +kernel⟩
def JZ (dd:List Dv)(t:Tr):Prop:=∃ n:Int,dd=[di n]/\t=tb true
theorem S6 {f:Addr}{fd:FuncData}{k:Nat}(F:bg K "is_whole" "is_whole" oZ f fd)(T:Txt mg):aM P w K mg base ao (k+1) f fd ["number"] (spT K JZ):=by
 refine bD F.d S5 (fun dd t h=>by obtain ⟨n,rfl,_⟩:=h;rfl) fun dd t h=>?_
 obtain ⟨n,rfl,rfl⟩:=h
 refine ⟨_,.inl rfl,?_⟩
 exact aK (cf (Ev.s (Ev.to (LU (p:=true) (q:=true) (LX T.fK T.ZA X5 (ae 0 rfl) (by with_unfolding_all rfl)) fun _=>(v5 (LV (p:=false) (LX T.fK T.YD V8 (ae 0 rfl) (by with_unfolding_all rfl))))) rfl)))
abbrev iT:Stmt:=top 18
theorem Iz:bj ["top", "bottom", "part"] ["top", "bottom"] (ah iT):=⟨rfl,rfl,rfl,by decide +kernel,rfl,by decide +kernel,by decide +kernel⟩
def gN (dd:List Dv)(t:Tr):Prop:=∃ a b:Int,0<b/\b.natAbs<2 ^ 8000/\dd=[di a,di b]/\t=tF (lT a b,lB a b)
theorem S7 {f f1 f2:Addr}{fd aE fd2:FuncData}{dV:Value}{k:Nat}(F:iw K "fraction" "fraction" iT dV f fd)(T:Txt mg)(IM:Kn P w K mg base ao (k+1) "is_whole" f1 aE ["number"] (spT K JZ))(Sa:Kn P w K mg base ao (k+1) "common_part" f2 fd2 ["one", "other"] (spT K Nt)):aM P w K mg base ao (k+2) f fd ["top", "bottom"] (spT K gN):=by
 refine bD F Iz (fun dd t h=>by obtain ⟨_,_,_,_,rfl,_⟩:=h;rfl) fun dd t h=>?_
 obtain ⟨a,b,hb,hz,rfl,rfl⟩:=h
 refine ⟨_,.inl rfl,?_⟩
 refine aw (dG (Et.s (Ew.et (mj (LR (j5 (aI IM (Nat.le_refl _) (af (ae 0 rfl) aq) ⟨a,rfl,rfl⟩))) fun _=>(lV (LR (j5 (aI IM (Nat.le_refl _) (af (ae 1 rfl) aq) ⟨b,rfl,rfl⟩))))))) rfl) ?_
 refine aw (dG (Et.s (jq (ae 1 rfl) ak)) (decide_eq_false (by omega))) ?_
 have ha : 0<=(if a<0 then -a else a):=by split<;>omega
 have eI : 0<=(if b<0 then -b else b):=by split<;>omega
 have eg:gc (if a<0 then -a else a) (if b<0 then -b else b)=gc a b:=by
  rw [show (if a<0 then -a else a)=(a.natAbs:Int) by split<;>omega,show (if b<0 then -b else b)=(b.natAbs:Int) by split<;>omega,Yh]
 have gp:=sL (a:=a) (show b ≠ 0 by omega)
 have gl:=Wh (a:=a) hb
 refine aw (aQ 2 (ck.to (t':=ti (gc a b)) (Ev.s (aI Sa (Nat.le_refl _) (af (LW T.Nr (ae 0 rfl)) (af (LW T.Nr (ae 1 rfl)) aq)) ⟨_,_,ha,eI,rfl,rfl⟩)) (by rw [eg])) (fun _=>Iz.nd)) ?_
 refine aw (dG (Et.s (kI (ae 1 rfl) ak)) (decide_eq_false (by omega))) ?_
 have cd:∀ i:Int,sU i (gc a b):=fun i=>⟨gp,Nat.lt_of_le_of_lt (by omega) hz⟩
 refine aK (cf (Ev.s (vG (af (jZ (ae 0 rfl) (ae 2 rfl) (cd _)) (af (jZ (ae 1 rfl) (ae 2 rfl) (cd _)) aq)) ?_ (by show 2<=sizeLine;decide))))
 show [di (a / gc a b),di (b / gc a b)]=_
 rw [Yi hb,Yj hb]
abbrev pW:Stmt:=top 19
theorem Xg:bj ["one", "other"] ["one", "other"] (ah pW):=⟨rfl,rfl,rfl,by decide +kernel,rfl,by decide +kernel,by decide +kernel⟩
def fP (p:Int×Int):Prop:=0<p.2/\p.2.natAbs<2 ^ 90/\p.1.natAbs<2 ^ 90
def CP (dd:List Dv)(t:Tr):Prop:=∃ p q:Int×Int,fP p/\fP q/\dd=[dF p,dF q]/\t=tF (lT (p.1*q.2+q.1*p.2) (p.2*q.2),lB (p.1*q.2+q.1*p.2) (p.2*q.2))
theorem cA {a:Int}{n:Nat}(h:a.natAbs<2 ^ n)(hn:n<=8000):a.natAbs<2 ^ 8000:=Nat.lt_of_lt_of_le h (Nat.pow_le_pow_right (by decide) hn)
theorem wa {a b:Int}{m n:Nat}(h1:a.natAbs<2 ^ m)(h2:b.natAbs<2 ^ n):(a*b).natAbs<2 ^ (m+n):=by
 rw [Int.natAbs_mul,Nat.pow_add]
 exact Nat.mul_lt_mul'' h1 h2
theorem Xh {f f1:Addr}{fd aE:FuncData}{k:Nat}(F:bg K "plus" "plus" pW f fd)(T:Txt mg)(cO:Kn P w K mg base ao (k+2) "fraction" f1 aE ["top", "bottom"] (spT K gN)):aM P w K mg base ao (k+3) f fd ["one", "other"] (spT K CP):=by
 refine bD F.d Xg (fun dd t h=>by obtain ⟨_,_,_,_,rfl,_⟩:=h;rfl) fun dd t h=>?_
 obtain ⟨p,q,⟨p1,p2,p3⟩,⟨q1,q2,q3⟩,rfl,rfl⟩:=h
 refine ⟨_,.inl rfl,?_⟩
 have fI:∀ r:Int×Int,bq [di r.1,di r.2] 0=some (di r.1):=fun _=>rfl
 have fi:∀ r:Int×Int,bq [di r.1,di r.2] 1=some (di r.2):=fun _=>rfl
 exact aK (cf (Ev.s (aI cO (Nat.le_refl _) (af (jj (h9 (aV (ae 0 rfl) ak rfl (fI p)) (aV (ae 1 rfl) ak rfl (fi q)) ⟨cA p3 (by decide),cA q2 (by decide)⟩) (h9 (aV (ae 1 rfl) ak rfl (fI q)) (aV (ae 0 rfl) ak rfl (fi p)) ⟨cA q3 (by decide),cA p2 (by decide)⟩)) (af (h9 (aV (ae 0 rfl) ak rfl (fi p)) (aV (ae 1 rfl) ak rfl (fi q)) ⟨cA p2 (by decide),cA q2 (by decide)⟩) aq)) ⟨_,_,Int.mul_pos p1 q1,cA (wa p2 q2) (by decide),rfl,rfl⟩)))
abbrev oG:Stmt:=top 29
theorem zu:bj ["orders", "many", "asker", "order"] ["orders", "many"] (ah oG):=⟨rfl,rfl,rfl,by decide +kernel,rfl,by decide +kernel,by decide +kernel⟩
def Mu (dd:List Dv)(t:Tr):Prop:=∃ (os:List (List Int)) (n:Int),(∀ o ∈ os,o.Nodup/\o.length<=100/\∀ x ∈ o,0<=x/\x<n)/\dd=[.lst (os.map dis),di n]/\t=tn
theorem Bq {α:Type}(l:List α)(f : α->Bool):er (.ow (l.map fun k=>Tr.fz (db (f k))))=.lst ((l.map f).map db):=by
 rw [fk,List.map_map];rfl
theorem RF {f:Addr}{fd:FuncData}{k:Nat}(F:bg K "check_orders" "check_orders" oG f fd)(T:Txt mg):aM P w K mg base ao (k+1) f fd ["orders", "many"] (spT K Mu):=by
 refine bD F.d zu (fun dd t h=>by obtain ⟨_,_,_,rfl,_⟩:=h;rfl) fun dd t h=>?_
 obtain ⟨os,n,ho,rfl,rfl⟩:=h
 refine ⟨_,.inr ⟨rfl,[some (.fz (.lst (os.map dis))),some (ti n),none,none],rfl⟩,?_⟩
 have big : 1000<sizeLine:=by decide
 refine aw (ρ1:=[some (.fz (.lst (os.map dis))),some (ti n),none,none]) (jk (bJ.s (rW T.rD (ae 0 rfl) rfl)) (nq 2 3 (fun _=>zu.nd)) (fun _=>[some (.fz (.lst (os.map dis))),some (ti n),none,none]) rfl (fun _=>rfl) (fun j d hd=>?_)) ?_
 ·obtain ⟨x,hx,rfl⟩:=Bj hd
  obtain ⟨o,ju,rfl⟩:=iV hx
  obtain ⟨o1,o2,o3⟩:=ho o (List.mem_of_getElem? ju)
  refine ⟨_,_,rfl,aK (dG (Et.s (j5 (BW (bs:=o.map fun x=>decide (x<0) || decide (n<=x)) T.CO (jm (own:=["thing"]) (fr:=[1]) o di (fun x=>tb (decide (x<0) || decide (n<=x))) (fun i=>lcs ⟨rfl,rfl,by decide +kernel,by decide +kernel,by decide +kernel,by decide +kernel⟩) (dD (ae 3 rfl) rfl) (cm 0 (fun _=>by show List.Nodup (["thing", "many"]:List Str);decide)) (by decide) (by omega) (fun x hx=>⟨_,rfl,M7 (CF (ae 0 rfl) ak) fun _=>v5 (Zh (ae 0 rfl) (ae 1 rfl))⟩) (fun dd=>by cases dd<;>rfl)) (Bq o _)))) ?_),[2,3],rfl⟩
  rw [List.any_eq_false]
  intro b hb
  obtain ⟨x,hx,rfl⟩:=List.mem_map.mp hb
  obtain ⟨x0,x1⟩:=o3 x hx
  simp only [id,decide_eq_false (show ¬ x<0 by omega),decide_eq_false (show ¬ n<=x by omega)]
  decide
 refine aw (ρ1:=[some (.fz (.lst (os.map dis))),some (ti n),none,none]) (jk (bJ.s (rW T.rD (ae 0 rfl) rfl)) (nq 2 3 (fun _=>zu.nd)) (fun _=>[some (.fz (.lst (os.map dis))),some (ti n),none,none]) rfl (fun _=>rfl) (fun j d hd=>?_)) vI
 obtain ⟨x,hx,rfl⟩:=Bj hd
 obtain ⟨o,ju,rfl⟩:=iV hx
 obtain ⟨o1,o2,o3⟩:=ho o (List.mem_of_getElem? ju)
 refine ⟨_,_,rfl,aK (dG (Et.s (wt (Um T.cg T.ZD (ae 3 rfl) rfl (by omega)) (cu T.cg (ae 3 rfl) (.inl rfl)))) ?_),[2,3],rfl⟩
 rw [Sy o1,List.length_map]
 simp
abbrev o7:Stmt:=top 30
theorem S8:bj ["counts", "orders"] ["counts", "orders"] (ah o7):=⟨rfl,rfl,rfl,by decide +kernel,rfl,by decide +kernel,by decide +kernel⟩
def Oj (dd:List Dv)(t:Tr):Prop:=∃ (c:List Int) (os:List (List Int)),bS c os/\dd=[dis c,.lst (os.map dis)]/\t=.tp [aR c,d9 os]
theorem S9 {f f1:Addr}{fd aE:FuncData}{k:Nat}(F:bg K "table_of" "table_of" o7 f fd)(T:Txt mg)(RQ:Kn P w K mg base ao (k+1) "check_orders" f1 aE ["orders", "many"] (spT K Mu)):aM P w K mg base ao (k+2) f fd ["counts", "orders"] (spT K Oj):=by
 refine bD F.d S8 (fun dd t h=>by obtain ⟨_,_,_,rfl,_⟩:=h;rfl) fun dd t h=>?_
 obtain ⟨c,os,ok,rfl,rfl⟩:=h
 refine ⟨_,.inl rfl,?_⟩
 have big : 1000<sizeLine:=by decide
 have c6:=ok.c6
 have o6:=ok.o6
 have o1:=ok.o1
 obtain ⟨tk,gm⟩:=T.sO
 obtain ⟨tk2,gm2⟩:=T.rA
 refine aw (dG (Et.s (Ew.et (mj (mh (cu T.cg (ae 0 rfl) (.inl rfl)) (ng (v:=.int 6) gm ⟨_,rfl⟩ rfl)) fun _=>(lV (mh (cu T.cg (ae 1 rfl) (.inl rfl)) (ng (v:=.int 6) gm ⟨_,rfl⟩ rfl)))))) ?_) ?_
 ·rw [List.length_map,List.length_map,decide_eq_false (by omega),decide_eq_false (by omega)];rfl
 refine aw (dG (Et.s (jq (cu T.cg (ae 1 rfl) (.inl rfl)) ak)) ?_) ?_
 ·rw [List.length_map,decide_eq_false (by omega)]
 refine aw (dG (Et.s (j5 (BW (bs:=c.map fun x=>decide (x<0) || decide (9<x)) T.CO (jm (own:=["count"]) (fr:=[]) c di (fun x=>tb (decide (x<0) || decide (9<x))) (fun i=>lcs ⟨rfl,rfl,by decide +kernel,by decide +kernel,by decide +kernel,by decide +kernel⟩) (dD (ae 0 rfl) rfl) (cm 0 (fun _=>by show List.Nodup (["count"]:List Str);decide)) (by decide) (by omega) (fun x hx=>⟨_,rfl,by exact M7 (CF (ae 0 rfl) ak) fun _=>v5 (Zg (ae 0 rfl) (ng (v:=.int 9) gm2 ⟨_,rfl⟩ rfl))⟩) (fun dd=>by cases dd<;>rfl)) (Bq c _)))) ?_) ?_
 ·rw [List.any_eq_false]
  intro b hb
  obtain ⟨x,hx,rfl⟩:=List.mem_map.mp hb
  obtain ⟨x0,x1⟩:=ok.cnt x hx
  simp only [id,decide_eq_false (show ¬ x<0 by omega),decide_eq_false (show ¬ 9<x by omega)]
  decide
 refine aw (vK (Ev.s (aI RQ (Nat.le_refl _) (af (ae 1 rfl) (af (cu T.cg (ae 0 rfl) (.inl rfl)) aq)) ⟨os,c.length,fun o ho=>⟨ok.nd o ho,Nat.le_trans (ok.iB ho) (by decide),ok.cB o ho⟩,?_,rfl⟩))) ?_
 rotate_left
 ·rw [List.length_map];rfl
 refine aK (cf (Ev.s (Ev.to (BQ (af (nh T.j7 (ae 0 rfl) (.inl rfl)) (af (jm (own:=["order"]) (fr:=[]) os dis aR (fun i=>lcs ⟨rfl,rfl,by decide +kernel,by decide +kernel,by decide +kernel,by decide +kernel⟩) (dD (ae 1 rfl) rfl) (cm 0 (fun _=>by show List.Nodup (["order"]:List Str);decide)) (by decide) (by omega) (fun o ho=>⟨_,rfl,Ev.to (nh T.j7 (ae 0 rfl) (.inl rfl)) (by rw [jW])⟩) (fun dd=>by cases dd<;>rfl)) aq)) (by show 2<=sizeLine;decide)) (by rw [jW]))))
abbrev oR:Stmt:=top 31
theorem zE:bj ["table", "asker", "many", "order"] ["table", "asker"] (ah oR):=⟨rfl,rfl,rfl,by decide +kernel,rfl,by decide +kernel,by decide +kernel⟩
def wJ (dd:List Dv)(t:Tr):Prop:=∃ (c:List Int) (os:List (List Int)) (a:Int) (o:List Int),c.length<=100/\o.length<=100/\bq os a=some o/\dd=[aW c os,di a]/\t=aR (bb c.length o)
theorem Xi {α β:Type}(f : α->β){l:List α}{k:Int}{x : α}(h:bq l k=some x):bq (l.map f) k=some (f x):=by
 unfold bq at h ⊢
 rw [List.length_map]
 cases q:gv l.length k with
 |none=>rw [q] at h;cases h
 |some j =>
  rw [q] at h
  show (l.map f)[j]?=_
  have h':l[j]?=some x:=h
  rw [List.getElem?_map,h'];rfl
theorem Sb {f:Addr}{fd:FuncData}{k:Nat}(F:bg K "full_order" "full_order" oR f fd)(T:Txt mg):aM P w K mg base ao (k+1) f fd ["table", "asker"] (spT K wJ):=by
 refine bD F.d zE (fun dd t h=>by obtain ⟨_,_,_,_,_,_,_,rfl,_⟩:=h;rfl) fun dd t h=>?_
 obtain ⟨c,os,a,o,h1,h2,h3,rfl,rfl⟩:=h
 refine ⟨_,.inl rfl,?_⟩
 have big : 1000<sizeLine:=by decide
 refine aw (aQ 2 (Ev.s (cu T.cg (aV (d:=dis c) (ae 0 rfl) ak rfl rfl) (.inl rfl))) (fun _=>zE.nd)) ?_
 refine aw (aQ 3 (Ev.s (dz (d:=dis o) (aV (d:=.lst (os.map dis)) (ae 0 rfl) ak rfl rfl) (ae 1 rfl) rfl (Xi dis h3))) (fun _=>zE.nd)) ?_
 rw [List.length_map]
 refine aK (cf (Ev.s (Ev.to (vY (vY (ae 3 rfl) (df (af (ae 2 rfl) aq) (by show 1<=sizeLine;decide)) rfl rfl ?_) (sW (own:=["thing"]) (fr:=[3]) (fun i=>lcs ⟨rfl,rfl,by decide +kernel,by decide +kernel,by decide +kernel,by decide +kernel⟩) (iS T.fM (ae 2 rfl) ⟨by omega,by omega⟩) (cm 0 (fun _=>by show List.Nodup (["thing", "order"]:List Str);decide)) (by decide) (fun k=>!o.contains (0+((k:Nat):Int))) (fun k=>ti (0+((k:Nat):Int))) ?_ (fun k d hd=>?_) (fun dd=>?_)) (pS _) (v8 _ _) ?_) ?_)))
 ·show (o.map di).length+1<=sizeLine
  rw [List.length_map];omega
 ·rw [List.length_map,List.length_range];omega
 ·obtain ⟨hi,rfl⟩:=vL hd
  exact ⟨_,rfl,j6 (AD (ae 0 rfl) (ae 1 rfl) rfl (by with_unfolding_all rfl)),fun _=>ae 0 rfl⟩
 ·cases dd<;>rfl
 ·have e:(iz 0 ((c.length:Nat):Int).toNat).length=c.length:=by simp
  rw [e]
  show ((o.map di)++[di _]).length+((mn c.length o).map di).length<=sizeLine
  have:=Ag c.length o
  simp only [List.length_append,List.length_map,List.length_singleton]
  omega
 ·have e:(iz 0 ((c.length:Nat):Int).toNat).length=c.length:=by simp
  rw [e]
  show Tr.ow ((((o.map di)++[di _])++((mn c.length o).map di)).map .fz)=Tr.ow ((o++[(c.length:Int)]++mn c.length o).map _)
  simp only [List.map_append,List.map_map]
  rfl
abbrev oS:Stmt:=top 32
theorem Sd:bj ["order", "gone"] ["order", "gone"] (ah oS):=⟨rfl,rfl,rfl,by decide +kernel,rfl,by decide +kernel,by decide +kernel⟩
def fQ (order gone:List Int):List Int:=order.filter fun x=>!gone.contains x
def B8 (dd:List Dv)(t:Tr):Prop:=∃ (order gone:List Int) (x:Int) (r:List Int),order.length<=100/\fQ order gone=x::r/\dd=[dis order,dis gone]/\t=ti x
theorem SD {α:Type}(l:List α)(d : α)(p : α->Bool):(((List.range l.length).filter fun k=>p ((l[k]?).getD d)).map fun k=>(l[k]?).getD d)=l.filter p:=by
 have h:((List.range l.length).map fun k=>(l[k]?).getD d)=l:=by
  have:=u5 l d id
  simpa using this
 conv=>rhs;rw [<- h]
 rw [List.filter_map]
 rfl
theorem Se {f:Addr}{fd:FuncData}{k:Nat}(F:bg K "first_left" "first_left" oS f fd)(T:Txt mg):aM P w K mg base ao (k+1) f fd ["order", "gone"] (spT K B8):=by
 refine bD F.d Sd (fun dd t h=>by obtain ⟨_,_,_,_,_,_,rfl,_⟩:=h;rfl) fun dd t h=>?_
 obtain ⟨order,gone,x,r,h1,h2,rfl,rfl⟩:=h
 refine ⟨_,.inl rfl,?_⟩
 have big : 1000<sizeLine:=by decide
 refine aK (cf (Ev.s (dz (xs:=(fQ order gone).map di) (d:=di x) (sW (own:=["one"]) (fr:=[1]) (fun i=>lcs ⟨rfl,rfl,by decide +kernel,by decide +kernel,by decide +kernel,by decide +kernel⟩) (dD (ae 0 rfl) rfl) (cm 0 (fun _=>by show List.Nodup (["one", "gone"]:List Str);decide)) (by decide) (fun k=>!gone.contains ((order[k]?).getD 0)) (fun k=>ti ((order[k]?).getD 0)) ?_ (fun k d hd=>?_) (fun dd=>?_)) ak ?_ ?_)))
 ·rw [List.length_map];omega
 ·obtain ⟨y,hy,rfl⟩:=iV hd
  refine ⟨_,rfl,?_,fun _=>?_⟩
  ·rw [hy];exact j6 (AD (ae 0 rfl) (ae 1 rfl) rfl (by with_unfolding_all rfl))
  ·rw [hy];exact ae 0 rfl
 ·cases dd<;>rfl
 ·rw [v8,List.length_map,SD order 0 fun x=>!gone.contains x]
  rfl
 ·rw [h2];exact fL (j:=0) rfl
abbrev pA:Stmt:=top 48
theorem rE:bj ["table", "turns", "counts", "deal", "asker", "gone"] ["table", "turns"] (ah pA):=⟨rfl,rfl,rfl,by decide +kernel,rfl,by decide +kernel,by decide +kernel⟩
def DI (ws:List V)(x:Int):Nat:=ws.countP fun z=>fF z (.int x)
def qf (c:List Int)(ws:List V):List Int:=((List.range c.length).filter fun k=>decide (((DI ws ((k:Nat):Int):Nat):Int)=(c[k]?).getD 0)).map fun k=>((k:Nat):Int)
def CQ (c:List Int)(o:List Int)(ws:List V):Int:=(fQ (bb c.length o) (qf c ws)).headD 0
def qh (c:List Int)(os:List (List Int))(ws:List V)(a:Int):List V:=ws.set a.toNat (.int (CQ c (os.getD a.toNat []) ws))
def fR (c:List Int)(os:List (List Int))(turns:List Int):List V:=turns.foldl (qh c os) (List.replicate os.length .aS)
def aai:V->Int
 | .int n=>n
 |_=>0
def dQ (c:List Int)(os:List (List Int))(turns:List Int):List Int:=(fR c os turns).map aai
theorem Ta (n:Nat):(aB n).Pairwise (· <= ·):=by
 unfold aB
 rw [List.pairwise_map]
 exact (List.pairwise_lt_range (n:=n)).imp fun h=>by omega
theorem Xj {c:List Int}{ws:List V}{x:Int}(h:x ∈ qf c ws) : 0<=x/\x<c.length/\((DI ws x:Nat):Int)=(c[x.toNat]?).getD 0:=by
 obtain ⟨k,hk,rfl⟩:=List.mem_map.mp h
 obtain ⟨h1,h2⟩:=List.mem_filter.mp hk
 have:=List.mem_range.mp h1
 refine ⟨by omega,by omega,?_⟩
 rw [show ((k:Nat):Int).toNat=k by omega]
 simpa using h2
theorem Xk (c o:List Int)(ws:List V):∃ x r,fQ (bb c.length o) (qf c ws)=x::r:=by
 have hm:((c.length:Nat):Int) ∈ fQ (bb c.length o) (qf c ws):=by
  unfold fQ bb
  refine List.mem_filter.mpr ⟨by simp,?_⟩
  rw [Bool.not_eq_true',Bool.eq_false_iff]
  intro z
  have:=Xj (by simpa using z)
  omega
 cases h:fQ (bb c.length o) (qf c ws) with
 |nil=>rw [h] at hm;cases hm
 |cons x r=>exact ⟨x,r,rfl⟩
theorem IP (c:List Int)(os:List (List Int))(ts:List Int)(a:Int):fR c os (ts++[a])=qh c os (fR c os ts) a:=by unfold fR;rw [List.foldl_append];rfl
theorem rM (c:List Int)(os:List (List Int)):∀ ts:List Int,(fR c os ts).length=os.length:=by
 intro ts
 unfold fR
 have gen:∀ (ts:List Int) (ws:List V),(ts.foldl (qh c os) ws).length=ws.length:=by
  intro ts
  induction ts with
  |nil=>intro ws;rfl
  |cons a ts ih=>intro ws;rw [List.foldl_cons,ih];unfold qh;rw [List.length_set]
 rw [gen,List.length_replicate]
theorem Vv (c:List Int)(os:List (List Int)):∀ (ts:List Int),(∀ a ∈ ts,0<=a/\a<os.length)->∀ i,i<os.length->((i:Int) ∉ ts->(fR c os ts)[i]?=some .aS)/\((i:Int) ∈ ts->∃ n,(fR c os ts)[i]?=some (.int n)):=by
 have gen:∀ (n:Nat) (ts:List Int),ts.length=n->(∀ a ∈ ts,0<=a/\a<os.length)->∀ i,i<os.length->((i:Int) ∉ ts->(fR c os ts)[i]?=some .aS)/\((i:Int) ∈ ts->∃ n,(fR c os ts)[i]?=some (.int n)):=?_
 exact fun ts=>gen ts.length ts rfl
 intro n
 induction n with
 |zero =>
  intro ts hl _ i hi
  obtain rfl:=List.length_eq_zero_iff.mp hl
  refine ⟨fun _=>?_,fun h=>nomatch h⟩
  show (List.replicate os.length V.aS)[i]?=_
  rw [List.getElem?_replicate,if_pos hi]
 |succ n ih =>
  intro Qm hl h i hi
  obtain ⟨ts,a,rfl⟩:∃ ts a,Qm=ts++[a]:=by
   rcases List.eq_nil_or_concat Qm with rfl | ⟨ts,a,rfl⟩
   ·cases hl
   ·exact ⟨ts,a,by rw [List.concat_eq_append]⟩
  obtain ⟨i1,i2⟩:=ih ts (by simpa using hl) (fun x hx=>h x (List.mem_append_left _ hx)) i hi
  have ha:=h a (by simp)
  rw [IP]
  unfold qh
  rw [List.getElem?_set,rM]
  by_cases e:a.toNat=i
  ·rw [if_pos e,if_pos (by omega)]
   refine ⟨fun z=>absurd (by simp;right;omega) z,fun _=>⟨_,rfl⟩⟩
  ·rw [if_neg e]
   refine ⟨fun z=>i1 fun z'=>z (List.mem_append_left _ z'),fun z=>i2 ?_⟩
   rcases List.mem_append.mp z with z | z
   ·exact z
   ·have:=List.mem_singleton.mp z
    omega
theorem Tz {c:List Int}{os:List (List Int)}{ts:List Int}(h:ts.Perm (aB os.length)):fR c os ts=(dQ c os ts).map V.int:=by
 unfold dQ
 rw [List.map_map]
 refine List.ext_getElem? fun i=>?_
 rw [List.getElem?_map]
 rcases Nat.lt_or_ge i os.length with hi | hi
 ·obtain ⟨n,hn⟩:=(Vv c os ts (fun a ha=>by have:=gg.mp (h.mem_iff.mp ha);exact this) i hi).2 (h.mem_iff.mpr (gg.mpr ⟨by omega,by omega⟩))
  rw [hn];rfl
 ·rw [List.getElem?_eq_none (by rw [rM];exact hi)];rfl
def Br (dd:List Dv)(t:Tr):Prop:=∃ (c:List Int) (os:List (List Int)) (ts:List Int),bS c os/\ts.Perm (aB os.length)/\dd=[aW c os,dis ts]/\t=aR (dQ c os ts)
theorem TB {f f1 f2:Addr}{fd aE fd2:FuncData}{k:Nat}(F:bg K "deal_by" "deal_by" pA f fd)(T:Txt mg)(rB:Kn P w K mg base ao (k+1) "full_order" f1 aE ["table", "asker"] (spT K wJ))(zG:Kn P w K mg base ao (k+1) "first_left" f2 fd2 ["order", "gone"] (spT K B8)):aM P w K mg base ao (k+2) f fd ["table", "turns"] (spT K Br):=by
 refine bD F.d rE (fun dd t h=>by obtain ⟨_,_,_,_,_,rfl,_⟩:=h;rfl) fun dd t h=>?_
 obtain ⟨c,os,ts,ok,hp,rfl,rfl⟩:=h
 refine ⟨_,.inl rfl,?_⟩
 have big : 1000<sizeLine:=by decide
 have hlen:ts.length=os.length:=by rw [hp.length_eq];unfold aB;rw [List.length_map,List.length_range]
 have o6:=ok.o6
 have c6:=ok.c6
 refine aw (aQ 2 (Ev.s (aV (d:=dis c) (ae 0 rfl) ak rfl rfl)) (fun _=>rE.nd)) ?_
 have ZE:sortI ts=aB os.length:=Iw ((sortI_perm ts).trans hp) (JN ts) (Ta _)
 have e1:er (aR (sortI ts))=dis (sortI ts):=gf _
 have e2:er (Tr.ow (((List.range (((os.map dis).length:Nat):Int).toNat).map fun i=>(0+((i:Nat):Int))).map fun n=>Tr.fz (di n)))=dis (aB os.length):=by rw [v8,List.map_id',List.length_map];rfl
 refine aw (dG (Et.s (pR (Uo T.JY (ae 1 rfl) rfl (by omega)) (Ip T.j7 T.fM (cu T.cg (aV (d:=.lst (os.map dis)) (ae 0 rfl) ak rfl rfl) (.inl rfl)) (by omega) (by rw [List.length_map];omega)) (.inl ⟨_,_,rfl,rfl⟩) ?_)) ?_) ?_
 ·rw [e1];exact Nat.le_trans (vM _) (by decide)
 ·rw [e1,e2,ZE,AG (Bi _)];rfl
 refine aw (aQ 3 (Ev.s (Ev.to (t':=.ow ((List.replicate os.length V.aS).map fun v=>.fz (.fl v))) (sW (own:=["asker"]) (fr:=[]) (fun i=>lcs ⟨rfl,rfl,by decide +kernel,by decide +kernel,by decide +kernel,by decide +kernel⟩) (dD (ae 1 rfl) rfl) (cm 0 (fun _=>by show List.Nodup (["asker"]:List Str);decide)) (by decide) (fun k=>true) (fun k=>tn) ?_ (fun k d hd=>?_) (fun dd=>?_)) ?_)) (fun _=>rE.nd)) ?_
 ·rw [List.length_map];omega
 ·obtain ⟨y,hy,rfl⟩:=iV hd
  exact ⟨_,rfl,v7,fun _=>X9⟩
 ·cases dd<;>rfl
 ·rw [List.filter_eq_self.mpr (fun _ _=>rfl),List.length_map,hlen]
  congr 1
  refine List.ext_getElem? fun i=>?_
  rw [List.getElem?_map,List.getElem?_map,List.getElem?_replicate]
  rcases Nat.lt_or_ge i os.length with hi | hi
  ·rw [List.getElem?_range hi,if_pos hi];rfl
  ·rw [List.getElem?_eq_none (by simpa using hi),if_neg (by omega)];rfl
 refine aw (jk (bJ.s (dD (ae 1 rfl) rfl)) (cm 4 (fun _=>rE.nd)) (fun k=>[some (.fz (aW c os)),some (.fz (dis ts)),some (.fz (dis c)),some (.ow ((fR c os (ts.take k)).map fun v=>.fz (.fl v))),none,none]) rfl (fun _=>rfl) (fun j d hd=>?_)) ?_
 ·obtain ⟨a,ha,rfl⟩:=iV hd
  obtain ⟨a0,a1⟩:=gg.mp (hp.mem_iff.mp (List.mem_of_getElem? ha))
  obtain ⟨o,EG⟩:∃ o,os[a.toNat]?=some o:=⟨_,List.getElem?_eq_getElem (by omega)⟩
  have oq:bq os a=some o:=by
   have:=fL EG
   rwa [show ((a.toNat:Nat):Int)=a by omega] at this
  have hol:=ok.iB (List.mem_of_getElem? EG)
  obtain ⟨x,r,hx⟩:=Xk c o (fR c os (ts.take j))
  have EH:(bb c.length o).length<=100:=by
   unfold bb
   have:=Ag c.length o
   simp only [List.length_append,List.length_singleton]
   omega
  have ZF:CQ c (os.getD a.toNat []) (fR c os (ts.take j))=x:=by
   unfold CQ
   rw [List.getD_eq_getElem?_getD,EG,Option.getD_some,hx]
   rfl
  refine ⟨_,_,rfl,aw (lW 5 (N6 (fh.to (t':=aR (qf c (fR c os (ts.take j)))) (xM (own:=["thing", "count"]) (fr:=[3]) (rW T.rD (ae 2 rfl) rfl) (nq 0 1 (fun _=>by show List.Nodup (["thing", "count", "deal"]:List Str);decide)) (by decide) (fun k=>decide (((DI (fR c os (ts.take j)) ((k:Nat):Int):Nat):Int)=(c[k]?).getD 0)) (fun k=>ti ((k:Nat):Int)) ?_ (fun k d hd=>?_) (fun dd=>?_)) ?_) ?_) (fun i=>lcs ⟨rfl,rfl,by decide +kernel,by decide +kernel,by decide +kernel,by decide +kernel⟩) (fun _=>rE.nd))
   (aK (JM 3 (n:=a) (m:=a.toNat) rfl (Ev.s (ae 4 rfl)) ?_ (Ev.pk (t:=ti x) (aI zG (Nat.le_refl _) (af (aI rB (Nat.le_refl _) (af (ae 0 rfl) (af (ae 4 rfl) aq)) ⟨c,os,a,o,by omega,by omega,oq,rfl,rfl⟩) (af (ae 5 rfl) aq)) ⟨_,_,x,r,EH,hx,?_,rfl⟩) True.intro) (hps:=fun i=>Lz (pv 3) (wz i) set_list))),[4,5],?_⟩
  ·rw [KO,List.length_map];omega
  ·obtain ⟨y,hy,rfl⟩:=Bj hd
   obtain ⟨z,hz,rfl⟩:=iV hy
   refine ⟨_,rfl,?_,fun _=>ae 0 rfl⟩
   rw [hz]
   exact j6 (jq (Up (ae 2 rfl) (Ve _) (ae 0 rfl)) (ae 1 rfl))
  ·match dd with
   |[] => rfl
   |[_] => rfl
   |_::_::_=>rfl
  ·rw [KO,List.length_map]
   show _=Tr.ow ((List.map _ _).map _)
   rw [List.map_map]
   rfl
  ·exact sr _
  ·rw [List.length_map,rM]
   unfold gv
   rw [if_pos a0,if_pos a1]
  ·show [_,_,_,some (Tr.ow (List.set _ _ _)),_,_]=[_,_,_,some (Tr.ow _),_,_]
   rw [jR ha,IP]
   unfold qh
   rw [ZF,List.map_set]
  ·show [er (aR _),er (aR _)]=_
   rw [gf,gf]
 ·rw [List.length_map,List.take_length,Tz hp,List.map_map]
  exact aK (kD 3 rfl)
end
section
variable {P:Program}{w:World}{K:PySem.W.Frag}{mg:Str->Option Value}{base:Heap}
def hW (L:List (List Int))(n:Nat):List (List Int):=L.flatMap fun l=>((List.range n).filter fun k=>!l.contains (0+((k:Nat):Int))).map fun k=>l++[0+((k:Nat):Int)]
def bX (n:Nat):Nat->List (List Int)
 |0=>[[]]
 |k+1=>hW (bX n k) n
abbrev tL (l:List Int):Tr:=.ow (l.map fun n=>.fz (di n))
abbrev iN (L:List (List Int)):Tr:=.ow (L.map tL)
theorem Vw (l:List Int):cE (l.map fun n=>Tr.fz (di n))=l.map di:=by rw [kC,List.map_map];rfl
theorem ZG (l:List Int):er (tL l)=dis l:=by show Dv.lst _=_;rw [Vw]
theorem wc (L:List (List Int)):er (iN L)=.lst (L.map dis):=by
 show Dv.lst _=_
 rw [kC,List.map_map]
 congr 1
 exact List.map_congr_left fun l _=>ZG l
theorem Mv:∀ L:List (List Int),nJ (L.map tL)
 |[] => True.intro
 |l::L=>⟨sr l,Mv L⟩
theorem IA (n:Nat):∀ L:List (List Int),(hW L n).length<=L.length*n
 |[] => Nat.zero_le _
 |l::L=>by
  show ((((List.range n).filter _).map _)++hW L n).length<=_
  rw [List.length_append,List.length_map,List.length_cons,Nat.succ_mul]
  have h1:=List.length_filter_le (fun k=>!l.contains (0+((k:Nat):Int))) (List.range n)
  rw [List.length_range] at h1
  have:=IA n L
  omega
abbrev pF:Stmt:=top 49
theorem Am:bj ["lists", "many", "told", "one"] ["lists", "many"] (ah pF):=⟨rfl,rfl,rfl,by decide +kernel,rfl,by decide +kernel,by decide +kernel⟩
def sy (dd:List Dv)(t:Tr):Prop:=∃ (L:List (List Int)) (n:Nat),dd=[.lst (L.map dis),di n]/\L.length*n<=1000/\n<=100/\(∀ l ∈ L,l.length<=100)/\t=iN (hW L n)
theorem UB {f:Addr}{fd:FuncData}{k:Nat}(F:bg K "longer" "longer" pF f fd)(T:Txt mg):aM P w K mg base ao (k+1) f fd ["lists", "many"] (spT K sy):=by
 refine bD F.d Am (fun dd t h=>by obtain ⟨L,n,rfl,_⟩:=h;rfl) fun dd t h=>?_
 obtain ⟨L,n,rfl,h1,h2,h3,rfl⟩:=h
 refine ⟨_,.inl rfl,?_⟩
 have big : 1000<=sizeLine:=by decide
 refine aw (aQ 2 (Ev.s (df aq (Nat.zero_le _))) (fun _=>Am.nd)) ?_
 refine aw (jk (bJ.s (dD (ae 0 rfl) rfl)) (cm 3 (fun _=>Am.nd)) (fun k=>[some (.fz (.lst (L.map dis))),some (.fz (di n)),some (iN (hW (L.take k) n)),none]) rfl (fun _=>rfl) (fun j d hd=>?_)) ?_
 ·rw [List.getElem?_map] at hd
  cases hl:L[j]? with
  |none=>rw [hl] at hd;cases hd
  |some l =>
   rw [hl] at hd
   cases hd
   have hjL:j<L.length:=(List.getElem?_eq_some_iff.mp hl).1
   have e:(hW (L.take (j+1)) n)=hW (L.take j) n++((List.range n).filter fun k=>!l.contains (0+((k:Nat):Int))).map fun k=>l++[0+((k:Nat):Int)]:=by
    rw [jR hl]
    unfold hW
    rw [List.flatMap_append]
    simp
   have hlen:(hW (L.take (j+1)) n).length<=1000:=by
    refine Nat.le_trans (IA _ _) (Nat.le_trans (Nat.mul_le_mul_right n ?_) h1)
    rw [List.length_take];omega
   refine ⟨_,_,rfl,aK (Uj 2 rfl (Ev.s (sW (own:=["number"]) (fr:=[3]) (fun i=>lcs ⟨rfl,rfl,by decide +kernel,by decide +kernel,by decide +kernel,by decide +kernel⟩) (iS T.fM (ae 1 rfl) ⟨by omega,by omega⟩)
    (cm 0 (fun _=>by show List.Nodup (["number", "one"]:List Str);decide)) (by decide) (fun k=>!l.contains (0+(k:Int))) (fun k=>.ow ((l.map di++[di (0+((k:Nat):Int))]).map .fz)) ?_ (fun k d hd=>?_) (fun dd=>?_))) ?_),?_⟩
   ·rw [List.length_map,List.length_range]
    show (n:Int).toNat<sizeLine
    omega
   ·rw [List.getElem?_map] at hd
    cases hk:(List.range ((n:Int).toNat))[k]? with
    |none=>rw [hk] at hd;cases hd
    |some k' =>
     have:k'=k:=by
      obtain ⟨q1,q2⟩:=List.getElem?_eq_some_iff.mp hk
      rw [List.getElem_range] at q2;exact q2.symm
     subst this
     rw [hk] at hd
     cases hd
     refine ⟨_,rfl,j6 (AD (ae 0 rfl) (ae 1 rfl) rfl (by with_unfolding_all rfl)),fun _=>vY (ae 1 rfl) (df (af (ae 0 rfl) aq) (by show 1<=sizeLine;decide)) rfl rfl ?_⟩
     show (l.map di).length+1<=sizeLine
     have:=h3 l (List.mem_of_getElem? hl)
     rw [List.length_map]
     omega
   ·cases dd<;>rfl
   ·rw [List.length_map,List.length_map]
    have:=congrArg List.length e
    rw [List.length_append,List.length_map] at this
    rw [List.length_map,List.length_range]
    show _+(List.filter _ (List.range n)).length<=sizeLine
    omega
   ·refine ⟨[3],?_⟩
    have eT:iN (hW (L.take (j+1)) n)=.ow (List.map tL (hW (L.take j) n)++List.map (fun k=>Tr.ow (List.map Tr.fz (List.map di l++[di (0+((k:Nat):Int))]))) (List.filter (fun k=>!l.contains (0+((k:Nat):Int))) (List.range (iz 0 ((n:Nat):Int).toNat).length))):=by
     rw [e]
     unfold iN
     rw [List.map_append,List.map_map,List.length_map,List.length_range]
     congr 2
     refine List.map_congr_left fun k _=>?_
     show Tr.ow _=Tr.ow _
     rw [List.map_append,List.map_append,List.map_map]
     rfl
    show [_,_,some _,_]=[_,_,some _,_]
    rw [eT]
 ·rw [List.length_map,List.take_length]
  exact aK (kD 2 rfl)
abbrev mV:Stmt:=top 50
theorem rC:bj ["many", "told", "length"] ["many"] (ah mV):=⟨rfl,rfl,rfl,by decide +kernel,rfl,by decide +kernel,by decide +kernel⟩
def Mw (dd:List Dv)(t:Tr):Prop:=∃ n:Nat,n<=5/\dd=[di n]/\t=iN (bX n n)
theorem IB:∀ n,n<=5->∀ k,k<=n->(bX n k).length*n<=1000/\∀ l ∈ bX n k,l.length<=100:=by
 have:∀ n:Fin 6,∀ k:Fin (n.val+1),(bX n.val k.val).length*n.val<=1000/\((bX n.val k.val).all fun l=>decide (l.length<=100))=true:=by decide +kernel
 intro n hn k hk
 obtain ⟨h1,h2⟩:=this ⟨n,by omega⟩ ⟨k,by show k<n+1;omega⟩
 exact ⟨h1,fun l hl=>by simpa using List.all_eq_true.mp h2 l hl⟩
theorem SE {f f1:Addr}{fd aE:FuncData}{k:Nat}(F:bg K "all_turns" "all_turns" mV f fd)(T:Txt mg)(rX:Kn P w K mg base ao (k+1) "longer" f1 aE ["lists", "many"] (spT K sy)):aM P w K mg base ao (k+2) f fd ["many"] (spT K Mw):=by
 refine bD F.d rC (fun dd t h=>by obtain ⟨n,_,rfl,_⟩:=h;rfl) fun dd t h=>?_
 obtain ⟨n,hn,rfl,rfl⟩:=h
 obtain ⟨tk,hg⟩:=T.oQ
 refine ⟨_,.inl rfl,?_⟩
 refine aw (wu (Et.s (mh (ae 0 rfl) (ng (v:=.int 5) hg ⟨_,rfl⟩ rfl))) (fun h=>?_) (fun h=>vI)) ?_
 ·exact absurd (of_decide_eq_true h) (by omega)
 refine aw (aQ 1 (Ev.s (df (af (df aq (Nat.zero_le _)) aq) (by show 1<=sizeLine;decide))) (fun _=>rC.nd)) ?_
 refine aw (jk (bJ.s (iS T.fM (ae 0 rfl) ⟨by omega,by omega⟩)) (cm 2 (fun _=>rC.nd)) (fun k=>[some (.fz (di n)),some (iN (bX n k)),none]) rfl (fun _=>rfl) (fun j d hd=>?_)) ?_
 ·have hj:j<n:=by
   have:=(List.getElem?_eq_some_iff.mp hd).1
   simpa using this
  obtain ⟨b1,b2⟩:=IB n hn j (by omega)
  refine ⟨_,_,rfl,aK (aQ 1 (Ev.pk (aI rX (Nat.le_refl _) (af (ae 1 rfl) (af (ae 0 rfl) aq)) ⟨bX n j,n,?_,b1,by omega,b2,rfl⟩) ?_) (fun _=>rC.nd)),[2],rfl⟩
  ·exact Mv _
  ·show [er (iN (bX n j)),di n]=_
   rw [wc]
 ·rw [List.length_map,List.length_range]
  exact aK (kD 1 rfl)
def eQ (D:List (List Int)):List (List Int):=D.foldl (fun acc d=>if d ∈ acc then acc else acc++[d]) []
theorem u9 (D:List (List Int))(d:List Int):eQ (D++[d])=if d ∈ eQ D then eQ D else eQ D++[d]:=by unfold eQ;rw [List.foldl_append];rfl
theorem snoc_ind {α:Type}{p:List α->Prop}(h0:p [])(h1:∀ l x,p l->p (l++[x])):∀ l,p l:=by
 have gen:∀ n (l:List α),l.length=n->p l:=by
  intro n
  induction n with
  |zero=>intro l h;rw [List.length_eq_zero_iff.mp h];exact h0
  |succ n ih =>
   intro l h
   rcases List.eq_nil_or_concat l with rfl | ⟨l',x,rfl⟩
   ·exact h0
   ·rw [List.concat_eq_append] at h ⊢
    exact h1 l' x (ih l' (by simpa using h))
 exact fun l=>gen l.length l rfl
theorem rF {x:List Int}:∀ D,x ∈ eQ D ↔ x ∈ D:=by
 refine snoc_ind (by simp [eQ]) fun D d ih=>?_
 rw [u9]
 split
 ·rename_i h
  rw [ih]
  constructor
  ·exact fun z=>List.mem_append_left _ z
  ·intro z
   rcases List.mem_append.mp z with z | z
   ·exact z
   ·rw [List.mem_singleton.mp z];exact ih.mp (by rw [<- List.mem_singleton.mp z] at h;exact h) |> fun q=>by rw [List.mem_singleton.mp z] at q;exact q
 ·rw [List.mem_append,List.mem_append,ih]
theorem UC:∀ D,(eQ D).Nodup:=by
 refine snoc_ind List.nodup_nil fun D d ih=>?_
 rw [u9]
 split
 ·exact ih
 ·rename_i h
  exact List.nodup_append.mpr ⟨ih,by simp,fun x hx y hy e=>h (by rw [List.mem_singleton.mp hy] at e;rw [<- e];exact hx)⟩
def fX {κ:Type}(f:List Int->κ)(D:List (List Int)):List (κ×V):=(eQ D).map fun d=>(f d,V.int (D.count d:Nat))
section
variable {κ:Type} [DecidableEq κ] {f:List Int->κ}
theorem Mx (inj:∀ a b,f a=f b->a=b)(g:List Int->V)(x:List Int):∀ l:List (List Int),((l.map fun d=>(f d,g d)).any fun kv=>decide (kv.1=f x))=decide (x ∈ l)
 |[] => rfl
 |d::l=>by
  rw [List.map_cons,List.any_cons,Mx inj g x l]
  by_cases e:d=x
  ·subst e;simp
  ·have:f d ≠ f x:=fun z=>e (inj _ _ z)
   simp [this,Ne.symm e]
theorem B9 (inj:∀ a b,f a=f b->a=b)(g:List Int->V)(x:List Int):∀ l:List (List Int),fT (l.map fun d=>(f d,g d)) (f x)=if x ∈ l then some (g x) else none
 |[] => rfl
 |d::l=>by
  have ih:=B9 inj g x l
  unfold fT at ih ⊢
  rw [List.map_cons,List.find?_cons]
  by_cases e:d=x
  ·subst e;simp
  ·have:f d ≠ f x:=fun z=>e (inj _ _ z)
   rw [decide_eq_false this]
   simp only [ih,List.mem_cons,Ne.symm e,false_or]
theorem YF (inj:∀ a b,f a=f b->a=b)(D:List (List Int))(d:List Int):putK (fX f D) (f d) (.int (D.count d+1:Nat))=fX f (D++[d]):=by
 unfold putK fX
 rw [Mx inj]
 have hc:∀ y,(D++[d]).count y=if y=d then D.count d+1 else D.count y:=fun y=>by
  rw [List.count_append,List.count_singleton]
  by_cases e:y=d
  ·subst e;simp
  ·rw [if_neg e,if_neg (by simpa using Ne.symm e)];omega
 rw [u9]
 by_cases h:d ∈ eQ D
 ·rw [if_pos (decide_eq_true h),if_pos h,List.map_map]
  refine List.map_congr_left fun y _=>?_
  show (if f y=f d then _ else _)=_
  rw [hc]
  by_cases e:y=d
  ·subst e;rw [if_pos rfl,if_pos rfl]
  ·rw [if_neg fun z=>e (inj _ _ z),if_neg e]
 ·rw [if_neg (by rw [decide_eq_false h];decide),if_neg h,List.map_append]
  congr 1
  ·refine List.map_congr_left fun y hy=>?_
   rw [hc,if_neg fun e=>h (by rw [<- e];exact hy)]
  ·rw [List.map_cons,List.map_nil,hc,if_pos rfl]
theorem YG (inj:∀ a b,f a=f b->a=b)(D:List (List Int))(d:List Int):(fT (fX f D) (f d)).getD (.int 0)=.int (D.count d:Nat):=by
 unfold fX
 rw [B9 inj]
 by_cases h:d ∈ eQ D
 ·rw [if_pos h];rfl
 ·rw [if_neg h,List.count_eq_zero.mpr fun z=>h ((rF D).mpr z)];rfl
theorem ZH (inj:∀ a b,f a=f b->a=b){D:List (List Int)}{d:List Int}(h:d ∈ D):fT (fX f D) (f d)=some (.int (D.count d:Nat)):=by
 unfold fX
 rw [B9 inj,if_pos ((rF D).mpr h)]
end
theorem zW (D:List (List Int)):(eQ D).length<=D.length:=by
 refine snoc_ind (p:=fun D=>(eQ D).length<=D.length) (Nat.le_refl _) (fun D d ih=>?_) D
 rw [u9,List.length_append]
 split
 ·omega
 ·rw [List.length_append];simp;omega
end
section
variable {P:Program}{w:World}{K:PySem.W.Frag}{mg:Str->Option Value}{base:Heap}
theorem TC:∀ n,n<=5->∀ l ∈ bX n n,l.Perm (aB n):=by
 have:∀ n:Fin 6,((bX n.val n.val).all fun l=>l.isPerm (aB n.val))=true:=by decide +kernel
 intro n hn l hl
 exact List.isPerm_iff.mp (List.all_eq_true.mp (this ⟨n,by omega⟩) l hl)
theorem An:∀ n,n<=5->1<=(bX n n).length/\(bX n n).length<=120:=by
 have:∀ n:Fin 6,1<=(bX n.val n.val).length/\(bX n.val n.val).length<=120:=by decide +kernel
 intro n hn
 exact this ⟨n,by omega⟩
def nM (d:List Int):List (List Int)->List (List Int)
 |[] => [d]
 |x::l=>if So.lexLt x d=true then x::nM d l else d::x::l
def nD (l:List (List Int)):List (List Int):=l.foldr nM []
theorem Ao (d:List Int):∀ l,(nM d l).Perm (d::l)
 |[] => .refl _
 |x::l=>by
  unfold nM
  split
  ·exact ((Ao d l).cons x).trans (List.Perm.swap d x l)
  ·exact .refl _
theorem rG:∀ l,(nD l).Perm l
 |[] => .refl _
 |x::l=>(Ao x (nD l)).trans ((rG l).cons x)
def gD (x y:List Int):Prop:=So.lexLt y x=false
theorem UD {a b c:List Int}(h1:gD a b)(h2:gD b c):gD a c:=by
 unfold gD at *
 cases h:So.lexLt c a with
 |false=>rfl
 |true =>
  rcases So.B6 c b a h with z | z
  ·rw [h2] at z;cases z
  ·rw [h1] at z;cases z
theorem YH {a b:List Int}(h:So.lexLt a b=true):gD a b:=by
 unfold gD
 cases z:So.lexLt b a with
 |false=>rfl
 |true =>
  have:=So.B5 a b a h z
  rw [So.Bl] at this;cases this
theorem Le (d:List Int):∀ l,l.Pairwise gD->(nM d l).Pairwise gD
 |[],_=>by simp [nM]
 |x::l,h=>by
  have hx:=List.pairwise_cons.mp h
  unfold nM
  split
  ·rename_i aZ
   refine List.pairwise_cons.mpr ⟨fun y hy=>?_,Le d l hx.2⟩
   rcases List.mem_cons.mp ((Ao d l).mem_iff.mp hy) with rfl | z
   ·exact YH aZ
   ·exact hx.1 y z
  ·rename_i aZ
   have hd:gD d x:=by unfold gD;simpa using aZ
   refine List.pairwise_cons.mpr ⟨fun y hy=>?_,h⟩
   rcases List.mem_cons.mp hy with rfl | z
   ·exact hd
   ·exact UD hd (hx.1 y z)
theorem J0:∀ l,(nD l).Pairwise gD
 |[] => .nil
 |x::l=>Le x _ (J0 l)
theorem Iq:∀ {a b:List (List Int)},a.Perm b->a.Pairwise gD->b.Pairwise gD->a=b
 |[],b,p,_,_=>(List.nil_perm.mp p).symm
 |x::a,[],p,_,_=>by have:=p.length_eq;cases this
 |x::a,y::b,p,ha,hb=>by
  have pa:=List.pairwise_cons.mp ha
  have pb:=List.pairwise_cons.mp hb
  have e:x=y:=by
   have h1:gD x y\/x=y:=by
    rcases List.mem_cons.mp (p.mem_iff.mpr (.head _)) with z | z
    ·exact .inr z.symm
    ·exact .inl (pa.1 y z)
   have h2:gD y x\/x=y:=by
    rcases List.mem_cons.mp (p.mem_iff.mp (.head _)) with z | z
    ·exact .inr z
    ·exact .inl (pb.1 x z)
   rcases h1 with h1 | h1
   ·rcases h2 with h2 | h2
    ·exact So.Bm x y h2 h1
    ·exact h2
   ·exact h1
  subst e
  rw [Iq (p.cons_inv) pa.2 pb.2]
def dm (c:List Int)(os:List (List Int)):List (List Int):=(bX os.length os.length).map (dQ c os)
def qj (c:List Int)(os:List (List Int)):List (List Int):=nD (eQ (dm c os))
end
section
variable {P:Program}{w:World}{K:PySem.W.Frag}{mg:Str->Option Value}{base:Heap}
abbrev cw:Stmt:=top 51
theorem mW:bj ["table", "lists", "often", "turns", "deal"] ["table"] (ah cw):=⟨rfl,rfl,rfl,by decide +kernel,rfl,by decide +kernel,by decide +kernel⟩
def xf (c:List Int)(os:List (List Int)):Tr:=.ow ((qj c os).map fun d=>.tp [tF (fW ((bX os.length os.length).length:Nat) ((dm c os).count d:Nat)),aR d])
def J4 (dd:List Dv)(t:Tr):Prop:=∃ c os,bS c os/\os.length<=5/\dd=[aW c os]/\t=xf c os
abbrev gE (d:List Int):List Key:=d.map Sum.inl
theorem Ca (a b:List Int)(h:gE a=gE b):a=b:=by
 have:=congrArg (List.map fun k:Key=>match k with | .inl n=>n | .inr _=>0) h
 unfold gE at this
 rw [List.map_map,List.map_map] at this
 have e:∀ l:List Int,l.map ((fun k:Key=>match k with | .inl n=>n | .inr _=>0) ∘ Sum.inl)=l:=fun l=>(List.map_congr_left (g:=id) fun _ _=>rfl).trans (List.map_id l)
 rwa [e,e] at this
theorem Nu (d:List Int):(gE d).map kV=d.map V.int:=by unfold gE;rw [List.map_map];rfl
theorem SF {L:List (List Int)}{g:List Int->List Int}{i:Nat}{ts:List Int}(h:L[i]?=some ts):(L.map g).take (i+1)=(L.map g).take i++[g ts]:=by
 rw [<- List.map_take,<- List.map_take,jR h,List.map_append];rfl
abbrev dO:List Str:=["table", "lists", "often", "turns", "deal"]
def aaj:Stmt->Expr
 | .Assign _ e _=>e
 |_=>.Constant .none 0 ⟨0,0,0,0⟩
def aak:Stmt->List Stmt
 | .For _ _ b _ _=>b
 |_=>[]
abbrev xg (j:Nat):Stmt:=(aN cw).getD j (.Pass ⟨0,0,0,0⟩)
abbrev eTM:Expr:=aaj ((aak (xg 2)).getD 0 (.Pass ⟨0,0,0,0⟩))
theorem ZI {ι:Type}{F:aY ι}{e:Expr}{ρ:En}{t:Tr}{σ:St}{G H:Hp}{Q:VK}(h:Ev F e ρ t)(s:ai G H)(r:cj F.K G ρ σ)(kk:Kv F.K G H t Q):uE F e σ H Q:=let ⟨τ,p,q⟩:=h;⟨τ,p,q σ G H Q s r kk⟩
theorem Vx {K:PySem.W.Frag}{G:Hp}{d0 d1 d3:Dv}{v0 v1 v3:V}{o2 o4:Option V}(h0:Hv K G d0 v0)(h1:Hv K G d1 v1)(h3:Hv K G d3 v3):cj K G [some (.fz d0),some (.fz d1),none,some (.fz d3),none] [some v0,some v1,o2,some v3,o4]:=fun j d h=>by
 match j,h with
 |0,h=>cases h;exact ⟨v0,rfl,h0⟩
 |1,h=>cases h;exact ⟨v1,rfl,h1⟩
 |3,h=>cases h;exact ⟨v3,rfl,h3⟩
 |2,h=>cases h
 |4,h=>cases h
 |n+5,h=>cases h
theorem YJ {f:Addr}{k:Nat}:∃ τ:TS,(∀ i,PS ((bB P w K mg base dO "turn_mix" (ah cw) f (k+2)).cx i) (xg 1) τ)/\∀ D σ H,(∀ p,H p=none->D.nx (σ.set 2 (some (.ref p))) (upd H p (.dT [])))->τ D σ H :=
 ⟨_,fun i=>ji (i:=2) mW.nd rfl (Or.inr rfl) Vj,fun D σ H h=>h⟩
theorem YK {f f2:Addr}{fd2:FuncData}{k:Nat}{c:List Int}{os L:List (List Int)}(T:Txt mg)(Ap:Kn P w K mg base ao (k+2) "deal_by" f2 fd2 ["table", "turns"] (spT K Br))(ok:bS c os)(Lp:∀ ts ∈ L,ts.Perm (aB os.length))(Ll:L.length<=120) :
  ∃ τ:TS,(∀ i,PS ((bB P w K mg base dO "turn_mix" (ah cw) f (k+2)).cx i) (xg 2) τ)/\∀ (D:Ends) (v0:V) (l1 p:Addr) (o3 o4:Option V) (G0 H0 G H:Hp) (vs:List V),Step G0 H0 G H->Hv K G (aW c os) v0->aH K G l1 vs->aO K G (L.map dis) vs->H0 p=none->G p=none->H p=some (.dT []) ->
   (∀ o3 o4 G' H',Step G0 H0 G' H'->ai G G'->G' p=none->H' p=some (.dT (fX gE (L.map (dQ c os))))->D.nx [some v0,some (.ref l1),some (.ref p),o3,o4] H')->τ D [some v0,some (.ref l1),some (.ref p),o3,o4] H:=by
 refine ⟨qu (sR K (bT 1)) (cZ 3) (dU (i3 (uE (bB P w K mg base dO "turn_mix" (ah cw) f (k+2)) eTM) (cZ 4)) (CJ (bT 2) (bT 4) (iF (mJ fun i j=>.int (i+j)) (BX (bT 2) (bT 4) (tC (.int 0))) (tC (.int 1))))),fun i=>?_,?_⟩
 ·exact BF (X:=(bB P w K mg base dO "turn_mix" (ah cw) f (k+2)).cx i) (tg:=.Name "turns" _) (iter:=.Name "lists" _) (wX rfl) rfl (A9 (X:=(bB P w K mg base dO "turn_mix" (ah cw) f (k+2)).cx i) (pv (X:=(bB P w K mg base dO "turn_mix" (ah cw) f (k+2)).cx i) (x := "lists") 1)) (jU (X:=(bB P w K mg base dO "turn_mix" (ah cw) f (k+2)).cx i) (i:=3) mW.nd rfl (Or.inl rfl)) (fm (ji (X:=(bB P w K mg base dO "turn_mix" (ah cw) f (k+2)).cx i) (i:=4) mW.nd rfl (Or.inl rfl) (wz i)) (jT (Ws (X:=(bB P w K mg base dO "turn_mix" (ah cw) f (k+2)).cx i) (CC i.hr) (pv (X:=(bB P w K mg base dO "turn_mix" (ah cw) f (k+2)).cx i) (x := "often") 2) (pv (X:=(bB P w K mg base dO "turn_mix" (ah cw) f (k+2)).cx i) (x := "deal") 4) (sS (X:=(bB P w K mg base dO "turn_mix" (ah cw) f (k+2)).cx i) LC (Vk (X:=(bB P w K mg base dO "turn_mix" (ah cw) f (k+2)).cx i) (CC i.hr) (pv (X:=(bB P w K mg base dO "turn_mix" (ah cw) f (k+2)).cx i) (x := "often") 2) (pv (X:=(bB P w K mg base dO "turn_mix" (ah cw) f (k+2)).cx i) (x := "deal") 4) nj ⟨rfl,rfl,rfl,rfl⟩) nj) rfl)))
 intro D v0 l1 p o3 o4 G0 H0 G H vs st h0 sq hv xP hpG hpd fin
 have hl:vs.length=L.length:=by rw [<- hv.length,List.length_map]
 refine Uh (a:=l1) (xs:=vs) rfl (st.s.seq sq) (fun i az H'=>∃ o3 o4 G',az=[some v0,some (.ref l1),some (.ref p),o3,o4]/\Step G0 H0 G' H'/\ai G G'/\G' p=none/\H' p=some (.dT (fX gE ((L.map (dQ c os)).take i)))) ⟨o3,o4,G,rfl,st,ai.refl _,hpG,hpd⟩ (fun i az H' _ z=>?_) (fun i x az H' hx z=>?_) (fun az H' z=>?_)
 ·obtain ⟨_,_,G',_,s',g',_⟩:=z
  exact (g'.trans s'.s).seq sq
 ·obtain ⟨o3,o4,G',rfl,s',g',np,hd⟩:=z
  obtain ⟨ts,EI⟩:∃ ts,L[i]?=some ts:=⟨_,List.getElem?_eq_getElem (by have:=(List.getElem?_eq_some_iff.mp hx).1;omega)⟩
  have hxv:Hv K G (dis ts) x:=by
   obtain ⟨v,e1,e2⟩:=hv.get (show (L.map dis)[i]?=some (dis ts) by rw [List.getElem?_map,EI];rfl)
   rw [hx] at e1
   cases e1
   exact e2
  have htm:=List.mem_of_getElem? EI
  dsimp only [cZ,dU,i3,List.set]
  refine ZI (ρ:=[some (.fz (aW c os)),some (.fz (.lst (L.map dis))),none,some (.fz (dis ts)),none]) (t:=.tp ((dQ c os ts).map fun n=>.fz (di n))) (Ev.to (Vr T.Xf (aI Ap (Nat.le_refl _) (af (ae 0 rfl) (af (ae 3 rfl) aq)) ⟨c,os,ts,ok,Lp ts htm,rfl,rfl⟩) (gf _)) (by rw [jW])) s'.s (Vx (h0.mono g') ⟨l1,vs,rfl,g'.seq sq,hv.mono g'⟩ (hxv.mono g')) fun v G2 H2 fq aD ow nw=>?_
  obtain ⟨b,ws,PU,rfl,hb,gW,_⟩:=ow
  obtain ⟨rfl,rfl⟩:=JV gW
  have hd2:=aD.h _ _ hd
  have eI:H2 b=some (.tup ((gE (dQ c os ts)).map kV)):=by rw [Nu];exact hb
  have EJ:G2 p=none:=by
   cases q:G2 p with
   |none=>rfl
   |some u =>
    have:=aD.n p np (by rw [q];exact fun z=>nomatch z)
    rw [hd] at this;cases this
  have lim:((fX gE ((L.map (dQ c os)).take i)):List (List Key×V)).length<sizeLine:=by
   have:=zW ((L.map (dQ c os)).take i)
   have h2:((L.map (dQ c os)).take i).length<=120:=by rw [List.length_take,List.length_map];omega
   have big : 1000<sizeLine:=by decide
   unfold fX
   rw [List.length_map];omega
  have eg:=YG (κ:=List Key) Ca ((L.map (dQ c os)).take i) (dQ c os ts)
  have ep:=YF (κ:=List Key) Ca ((L.map (dQ c os)).take i) (dQ c os ts)
  dsimp only [cZ,List.set,CJ,iF,BX,bT,tC]
  refine ⟨_,rfl,p,rfl,.inr ⟨_,.inl hd2⟩,_,rfl,_,kQ.t hd2 eI,_,_,eg,rfl,?_⟩
  refine ⟨_,rfl,_,rfl,p,_,rfl,tP.t hd2 eI lim,some x,some (.ref b),G2,rfl,?_,g'.trans aD.g,EJ,?_⟩
  ·have x8:=s'.trans aD
   refine ⟨x8.g,fun a o e=>?_,fun a o e=>?_,x8.n⟩
   ·rw [aP fun z=>by subst z;rw [xP] at e;cases e]
    exact x8.h a o e
   ·rw [aP fun z=>by subst z;rw [EJ] at e;cases e]
    exact x8.s a o e
  ·rw [bE,SF EI,<- ep]
   rfl
 ·obtain ⟨o3,o4,G',rfl,s',g',np,hd⟩:=z
  rw [hl,List.take_of_length_le (by rw [List.length_map];exact Nat.le_refl _)] at hd
  exact fin o3 o4 G' H' s' g' np hd
def Nv (K:PySem.W.Frag):List V->Hp->VK->Prop:=fun xs H Q=>∃ p ys,xs=[.ref p]/\(aH K H p ys\/cM K H p ys)/\Q (.int ys.length) H
def Nx (K:PySem.W.Frag):List V->Hp->VK->Prop:=fun xs H Q=>∃ p ys,xs=[.ref p]/\(aH K H p ys\/cM K H p ys)/\∀ l,H l=none->Q (.ref l) (upd H l (.lst ys))
theorem Sf {α β:Type}(l:List α)(g : α->β)(e : α):(List.range l.length).map (fun i=>g (l.getD i e))=l.map g:=by
 refine List.ext_getElem? fun n=>?_
 rw [List.getElem?_map,List.getElem?_map]
 by_cases hn:n<l.length
 ·rw [List.getElem?_range hn,List.getElem?_eq_getElem hn]
  show some (g (l.getD n e))=some (g l[n])
  rw [List.getD_eq_getElem?_getD,List.getElem?_eq_getElem hn];rfl
 ·rw [List.getElem?_eq_none (by rw [List.length_range];omega),List.getElem?_eq_none (by omega)];rfl
theorem Cb {K:PySem.W.Frag}{G H:Hp}:∀ d:List Int,aG K G H (d.map fun n=>Tr.fz (di n)) (d.map V.int) []
 |[] => ⟨rfl,rfl⟩
 |n::d=>⟨.int n,d.map V.int,[],[],rfl,rfl,⟨rfl,rfl,rfl⟩,Cb d⟩
theorem YL {f f3:Addr}{fJ:FuncData}{k:Nat}{L D0:List (List Int)}(T:Txt mg)(cO:Kn P w K mg base ao (k+2) "fraction" f3 fJ ["top", "bottom"] (spT K gN))(L1 : 1<=L.length)(Ll:L.length<=120)(ne:∀ d ∈ D0,d ≠ [])(Dl:D0.length<=120)(d6:∀ d ∈ D0,d.length<=6) :
  ∃ τ:TS,(∀ i,PS ((bB P w K mg base dO "turn_mix" (ah cw) f (k+2)).cx i) (xg 3) τ)/\∀ (D:Ends) (v0:V) (l1 p:Addr) (o3 o4:Option V) (G0 H0 G H:Hp) (vs:List V),Step G0 H0 G H->aH K G l1 vs->aO K G (L.map dis) vs->H p=some (.dT (fX gE D0)) ->
   (∀ v G' H' fq,Step G0 H0 G' H'->Ow K G' H' (.ow ((nD (eQ D0)).map fun d=>.tp [tF (fW (L.length:Nat) (D0.count d:Nat)),aR d])) v fq->Nw H0 G' fq->D.rt v H')->τ D [some v0,some (.ref l1),some (.ref p),o3,o4] H:=by
 refine ⟨kN (qK (sR K (jy Mq (bY (bT 2) cI))) (cZ 0) vD (nI (bY (kG (spT K gN) [] E0 (bY (CI (bT 1) (bT 0)) (bY (jy (Nv K) (bY (bT 2) cI)) cI))) (bY (jy (Nx K) (bY (bT 0) cI)) cI))) ["deal"] [2,1]),fun i=>?_,?_⟩
 ·refine lU (X:=(bB P w K mg base dO "turn_mix" (ah cw) f (k+2)).cx i) (M0 (X:=(bB P w K mg base dO "turn_mix" (ah cw) f (k+2)).cx i) (own:=["deal"]) (fr:=[2,1]) (lcs ⟨rfl,rfl,by decide +kernel,by decide +kernel,by decide +kernel,by decide +kernel⟩) rfl (A9 (X:=(bB P w K mg base dO "turn_mix" (ah cw) f (k+2)).cx i) (d8 (X:=(bB P w K mg base dO "turn_mix" (ah cw) f (k+2)).cx i) (SA rfl) rfl T.JY Jd (aF (pv (X:=(bB P w K mg base dO "turn_mix" (ah cw) f (k+2)).cx i) (x := "often") 2) bu))) (fun C s H ex pn=>jU (i:=0) (by show List.Nodup (["deal", "often", "lists"]:List Str);decide) rfl (Or.inl rfl)) (fun C s H ex pn pins s1 aA H1 Q I h=>M3 pins s1 aA H1 Q I h) (fun C s H ex pn=>?_))
  exact vW (aF (wq (x := "fraction") cO i.hr rfl (aF (Wr (CC i.hr) (pv (x := "often") 1) (pv (x := "deal") 0) (fun _ _=>rfl)) (aF (d8 Ik rfl T.cg BM (aF (pv (x := "lists") 2) bu)) bu))) (aF (vg Il rfl T.j7 Bf (aF (pv (x := "deal") 0) bu)) bu))
 intro D v0 l1 p o3 o4 G0 H0 G H vs st sq hv hd fin
 have big : 1000<sizeLine:=by decide
 have hl:vs.length=L.length:=by rw [<- hv.length,List.length_map]
 have fl:=zW D0
 refine ⟨_,rfl,p,fX gE D0,eQ D0,rfl,hd,?_,fun d hd=>ne d ((rF D0).mp hd),by omega,fun l ps uI hps pm pw=>⟨l,rfl,⟨_,.inl (.inl bE)⟩,fun acc dg=>?_⟩⟩
 ·unfold fX;rw [List.map_map];rfl
 have ms:ps.map (·.2)=nD (eQ D0):=Iq (pm.trans (rG _).symm) pw (J0 _)
 have pl:ps.length<=120:=by
  have:=pm.length_eq
  rw [List.length_map] at this;omega
 have s1:Step G0 H0 G (upd H l (.lst (ps.map fun q=>.ref q.1))):=st.trans (.gO st.s uI)
 have Eh:upd H l (.lst (ps.map fun q=>.ref q.1)) p=some (.dT (fX gE D0)):=by rw [aP fun z=>by subst z;rw [hd] at uI;cases uI];exact hd
 refine Yx (f:=fun i=>.tp [tF (fW (L.length:Nat) (D0.count ((ps.getD i (0,[])).2):Nat)),aR (ps.getD i (0,[])).2]) s1.s bE dg (by rw [List.length_map];omega) (fun i x hx G2 H2 Q g2 s2 h2 kv=>?_) (fun v G' H' fq ag ow nw=>?_)
 ·rw [List.getElem?_map] at hx
  obtain ⟨⟨b,d⟩,hq⟩:∃ q,ps[i]?=some q:=by
   cases e:ps[i]? with
   |none=>rw [e] at hx;cases hx
   |some q=>exact ⟨q,rfl⟩
  rw [hq] at hx
  cases hx
  have hgd:ps.getD i (0,[])=(b,d):=by rw [List.getD_eq_getElem?_getD,hq];rfl
  rw [hgd] at kv
  have Ol:(b,d) ∈ ps:=List.mem_of_getElem? hq
  have fe:upd H l (.lst (ps.map fun q=>.ref q.1)) b=some (.tup (d.map V.int)):=by
   have:=hps (b,d) Ol
   rw [aP fun z=>by subst z;rw [this] at uI;cases uI];exact this
  have hdD:d ∈ D0:=(rF D0).mp (pm.mem_iff.mp (List.mem_map.mpr ⟨(b,d),Ol,rfl⟩))
  have ot:=h2 _ _ fe
  have hd2:=h2 _ _ Eh
  have eI:H2 b=some (.tup ((gE d).map kV)):=by rw [Nu];exact ot
  have oq:fT (fX gE D0) (gE d)=some (.int (D0.count d:Nat)):=ZH (κ:=List Key) Ca hdD
  show nI _ [some (.ref b),some (.ref p),some (.ref l1)] H2 Q
  dsimp only [nI,bY,cI,kG,CI,bT,jy,Nv,Nx]
  refine ⟨_,rfl,_,rfl,p,_,rfl,oq ▸ kQ.t hd2 eI,_,rfl,l1,vs,rfl,.inl ((g2.trans s2).seq sq),?_⟩
  refine ⟨G2,[di (D0.count d:Nat),di (vs.length:Nat)],tF (fW (L.length:Nat) (D0.count d:Nat)),s2,?_,⟨_,_,by omega,?_,rfl,by rw [hl];rfl⟩,fun v3 G3 H3 f3 s3 o3 w3=>?_⟩
  ·exact ⟨_,_,rfl,⟨rfl,rfl⟩,_,_,rfl,⟨rfl,rfl⟩,rfl⟩
  ·rw [hl]
   exact Nat.lt_of_le_of_lt (show ((L.length:Nat):Int).natAbs<=2 ^ 70 by omega) (by decide)
  obtain ⟨rfl,hv3⟩:=o3
  refine ⟨_,rfl,b,d.map V.int,rfl,.inr (.inl (.inl (s3.h _ _ ot))),fun l2 iI=>⟨by show 2<=sizeLine;decide,fun t2 x9=>?_⟩⟩
  have Om:H3 t2=none:=by
   by_cases z:t2=l2
   ·rw [z];exact iI
   ·rwa [aP z] at x9
  have ne2:t2 ≠ l2:=fun z=>by rw [z,bE] at x9;cases x9
  have s4:Step G2 H2 G3 (upd (upd H3 l2 (.lst (d.map V.int))) t2 (.tup [v3,.ref l2])):=(s3.trans (.gO s3.s iI)).trans (.gO (s3.s.trans (ai.new iI)) x9)
  refine kv (.ref t2) G3 _ [t2,l2] s4 ⟨t2,[v3,.ref l2],[l2],rfl,bE,⟨v3,[.ref l2],[],[l2],rfl,rfl,⟨rfl,hv3⟩,.ref l2,[],[l2],[],rfl,rfl,⟨l2,d.map V.int,[],rfl,?_,?_,rfl⟩,rfl,rfl⟩,rfl⟩ ⟨fun a ha=>?_,fun a ha=>?_,?_⟩
  ·rw [aP (Ne.symm ne2),bE]
  ·exact Cb d
  ·rcases List.mem_cons.mp ha with rfl | z
   ·exact s3.h.free Om
   ·rw [List.mem_singleton.mp z];exact s3.h.free iI
  ·rcases List.mem_cons.mp ha with rfl | z
   ·exact s3.s.free Om
   ·rw [List.mem_singleton.mp z];exact s3.s.free iI
  ·simp [ne2]
 ·have e0:(List.range (ps.map fun q=>V.ref q.1).length).map (fun i=>Tr.tp [tF (fW (L.length:Nat) (D0.count ((ps.getD i (0,[])).2):Nat)),aR (ps.getD i (0,[])).2])=ps.map fun q=>Tr.tp [tF (fW (L.length:Nat) (D0.count q.2:Nat)),aR q.2]:=by
   rw [List.length_map];exact Sf ps (fun q=>Tr.tp [tF (fW (L.length:Nat) (D0.count q.2:Nat)),aR q.2]) (0,[])
  rw [e0] at ow
  have e:(ps.map fun q=>Tr.tp [tF (fW (L.length:Nat) (D0.count q.2:Nat)),aR q.2])=(nD (eQ D0)).map fun d=>.tp [tF (fW (L.length:Nat) (D0.count d:Nat)),aR d]:=by rw [<- ms,List.map_map];rfl
  rw [e] at ow
  exact fin v G' H' fq (s1.trans ag) ow ⟨fun a ha=>s1.h.free (nw.n a ha),nw.g,nw.d⟩
theorem Tb {f f1 f2 f3:Addr}{fd aE fd2 fJ:FuncData}{k:Nat}(F:bg K "turn_mix" "turn_mix" cw f fd)(T:Txt mg)(Tc:Kn P w K mg base ao (k+2) "all_turns" f1 aE ["many"] (spT K Mw))(Ap:Kn P w K mg base ao (k+2) "deal_by" f2 fd2 ["table", "turns"] (spT K Br))(cO:Kn P w K mg base ao (k+2) "fraction" f3 fJ ["top", "bottom"] (spT K gN)):aM P w K mg base ao (k+3) f fd ["table"] (spT K J4):=by
 refine bD F.d mW (fun dd t h=>by obtain ⟨_,_,_,_,rfl,_⟩:=h;rfl) fun dd t h=>?_
 obtain ⟨c,os,ok,o5,rfl,rfl⟩:=h
 refine ⟨_,.inl rfl,?_⟩
 have big : 1000<sizeLine:=by decide
 obtain ⟨L,eL⟩:∃ L,L=bX os.length os.length:=⟨_,rfl⟩
 have Ll:=An os.length o5
 have Lp:∀ ts ∈ L,ts.Perm (aB os.length):=fun ts h=>TC os.length o5 ts (eL ▸ h)
 rw [<- eL] at Ll
 have eD:dm c os=L.map (dQ c os):=by unfold dm;rw [eL]
 refine aw (aQ 1 (Ev.s (Ev.as (d:=.lst (L.map dis)) (aI Tc (Nat.le_refl _) (af (Ev.to (t':=ti (os.length:Nat)) (cu T.cg (aV (d:=.lst (os.map dis)) (ae 0 rfl) ak rfl rfl) (.inl rfl)) (by rw [List.length_map])) aq) ⟨os.length,o5,rfl,rfl⟩) (by rw [eL];exact wc _))) (fun _=>mW.nd)) ?_
 show bC _ _ [some (.fz (aW c os)),some (.fz (.lst (L.map dis))),none,none,none] _
 obtain ⟨D8,p1,q1⟩:=YJ (P:=P) (w:=w) (K:=K) (mg:=mg) (base:=base) (f:=f) (k:=k)
 obtain ⟨D9,p2,q2⟩:=YK (f:=f) (L:=L) T Ap ok Lp (by omega)
 have L1 : 1<=L.length:=by omega
 have dl:∀ d ∈ L.map (dQ c os),d.length=os.length:=fun d h=>by
  obtain ⟨ts,_,rfl⟩:=List.mem_map.mp h
  unfold dQ
  rw [List.length_map,rM]
 obtain ⟨τ3,p3,q3⟩:=YL (f:=f) (L:=L) (D0:=L.map (dQ c os)) T cO L1 (by omega) (fun d h z=>by have:=dl d h;rw [z] at this;have:=ok.o1;simp at *;omega) (by rw [List.length_map];omega) (fun d h=>by have:=dl d h;omega)
 refine ⟨dU D8 (dU D9 τ3),fun i=>fm (p1 i) (fm (p2 i) (jT (p3 i))),fun D σ G0 H0 G H r post=>?_⟩
 obtain ⟨fp,r⟩:=r
 obtain ⟨v0,_,fa,_,rfl,rfl,⟨rfl,h0⟩,v1,_,fb,_,rfl,rfl,⟨rfl,l1,vs,rfl,sq,Qn⟩,o2,_,rfl,o3,_,rfl,o4,_,rfl,rfl,rfl⟩:=r.own
 refine q1 _ _ _ fun p hp=>?_
 have yb:Step G0 H0 G (upd H p (.dT [])):=r.st.trans (.gO r.st.s hp)
 refine q2 _ v0 l1 p o3 o4 G0 H0 G _ vs yb h0 sq Qn (r.st.h.free hp) (r.st.s.free hp) bE fun o3 o4 G2 H2 aD g2 EJ hd2=>?_
 refine q3 _ v0 l1 p o3 o4 G0 H0 G2 H2 vs aD (g2.seq sq) (Qn.mono g2) hd2 fun v G3 H3 fq de ow nw=>post v G3 H3 fq de ?_ nw
 unfold xf qj
 rw [<- eL,eD]
 exact ow
end
section
variable {P:Program}{w:World}{K:PySem.W.Frag}{mg:Str->Option Value}{base:Heap}
theorem iZ {W s:Int}(h : 0<W)(w1:W<2 ^ 70)(s0 : 0<=s)(s1:s<=200*W):fP (fW W s):=by
 have a:=jo (s:=s) h
 have b:=Nc (s:=s) h
 have c:=L7 (s:=s) h
 refine ⟨a,?_,?_⟩
 ·have:(fW W s).2.natAbs<=2 ^ 70:=by omega
  exact Nat.lt_of_le_of_lt this (by decide)
 ·have:(fW W s).1.natAbs<=200*2 ^ 70:=by omega
  exact Nat.lt_of_le_of_lt this (by decide)
theorem nF (c:Int):(lT c 1,lB c 1)=(c,1):=by
 have:=vw (t:=c) (b:=1) (p:=c) (q:=1) (by decide) (by decide) (by simp) (by rfl)
 rw [<- this.1,<- this.2]
abbrev fj (W:Int)(ss:List Int):Dv:=.lst (ss.map fun s=>dF (fW W s))
abbrev pG:Stmt:=top 24
theorem vj:bj ["some", "total", "one"] ["some"] (ah pG):=⟨rfl,rfl,rfl,by decide +kernel,rfl,by decide +kernel,by decide +kernel⟩
def Cd (dd:List Dv)(t:Tr):Prop:=∃ (W:Int) (ss:List Int),0<W/\W<2 ^ 70/\(∀ s ∈ ss,0<=s/\s<=W)/\ss.length<=120/\dd=[fj W ss]/\t=tF (fW W ss.sum)
theorem J5 {ss:List Int}{W:Int}(h:∀ s ∈ ss,0<=s/\s<=W)(w0 : 0<W):∀ j,0<=(ss.take j).sum/\(ss.take j).sum<=j*W
 |0=>by rw [List.take_zero];show 0<=(0:Int)/\(0:Int)<=((0:Nat):Int)*W;omega
 |j+1=>by
  have ih:=J5 h w0 j
  have e:(((j+1:Nat):Int))*W=j*W+W:=by rw [Int.natCast_add,Int.add_mul];show _+1*W=_;rw [Int.one_mul]
  rw [e]
  cases q:ss[j]? with
  |none =>
   have hj:ss.length<=j:=by
    rcases Nat.lt_or_ge j ss.length with z | z
    ·rw [List.getElem?_eq_getElem z] at q;cases q
    ·exact z
   rw [List.take_of_length_le (by omega)]
   rw [List.take_of_length_le hj] at ih
   omega
  |some x =>
   have hx:=h x (List.mem_of_getElem? q)
   rw [jR q,List.sum_append,List.sum_singleton]
   omega
theorem UE {f f1 f2:Addr}{fd aE fd2:FuncData}{k:Nat}{tk:Tok}(F:bg K "sum_of" "sum_of" pG f fd)(T:Txt mg)(cO:Kn P w K mg base ao (k+2) "fraction" f1 aE ["top", "bottom"] (spT K gN))(B1:Binds K aE ["top", "bottom"] [.int 1 tk])(Ce:Kn P w K mg base ao (k+3) "plus" f2 fd2 ["one", "other"] (spT K CP)):aM P w K mg base ao (k+4) f fd ["some"] (spT K Cd):=by
 refine bD F.d vj (fun dd t h=>by obtain ⟨_,_,_,_,_,_,rfl,_⟩:=h;rfl) fun dd t h=>?_
 obtain ⟨W,ss,w0,w1,sb,sl,rfl,rfl⟩:=h
 refine ⟨_,.inl rfl,?_⟩
 refine aw (aQ 1 (ck.to (t':=tF (fW W (ss.take 0).sum)) (Ev.s (lO cO B1 (by show k+2<=k+3;omega) (af ak aq) ⟨0,1,by decide,by decide,rfl,rfl⟩)) (by rw [nF,List.take_zero];show tF (0,1)=tF (fW W 0);rw [KQ w0])) (fun _=>vj.nd)) ?_
 refine aw (jk (bJ.s (dD (ae 0 rfl) rfl)) (cm 2 (fun _=>vj.nd)) (fun j=>[some (.fz (fj W ss)),some (tF (fW W (ss.take j).sum)),none]) rfl (fun _=>rfl) (fun j d hd=>?_)) ?_
 ·obtain ⟨x,hx,rfl⟩:=iV hd
  have hb:=sb x (List.mem_of_getElem? hx)
  have ht:=J5 sb w0 j
  have hj:j<ss.length:=by
   rcases Nat.lt_or_ge j ss.length with z | z
   ·exact z
   ·rw [List.getElem?_eq_none z] at hx;cases hx
  have ae5:(j:Int)*W<=200*W:=Int.mul_le_mul_of_nonneg_right (by omega) (by omega)
  refine ⟨_,[some (.fz (fj W ss)),some (tF (fW W (ss.take (j+1)).sum)),some (tF (fW W x))],rfl,?_,[2],rfl⟩
  rw [jR hx,List.sum_append,List.sum_singleton]
  generalize (ss.take j).sum=S at ht
  exact aK (aQ 1 (ck.to (t':=tF (fW W (S+x))) (Ev.s (aI Ce (Nat.le_refl _) (af (ae 1 rfl) (af (ae 2 rfl) aq)) ⟨fW W S,fW W x,iZ w0 w1 ht.1 (by omega),iZ w0 w1 hb.1 (by omega),rfl,rfl⟩)) (by rw [KP w0])) (fun _=>vj.nd))
 ·rw [List.length_map,List.take_length]
  exact aK (cf (Ev.s (ae 1 rfl)))
def aL (l:List Int)(x:Int):Int:=l.getD x.toNat 0
theorem Cg {α:Type}(f:Int->α){l:List Int}{x:Int}(h0 : 0<=x)(h1:x<l.length):bq (l.map f) x=some (f (aL l x)):=by
 obtain ⟨m,rfl⟩:∃ m:Nat,x=(m:Int):=⟨x.toNat,by omega⟩
 refine fL ?_
 unfold aL
 rw [List.getElem?_map,List.getD_eq_getElem?_getD,Int.toNat_natCast,List.getElem?_eq_getElem (by omega)];rfl
theorem gI (n:Nat):(aB n).length=n:=by unfold aB;rw [List.length_map,List.length_range]
theorem Lf (n:Nat){i:Int}(h:i=(n:Int)):iz 0 i.toNat=(aB n).map di:=by
 subst h
 rw [Int.toNat_natCast]
 unfold aB
 rw [List.map_map];rfl
abbrev uJ (W:Int)(m:Int×List Int):Dv:=.tup [dF (fW W m.1),dis m.2]
def qW (M:List (Int×List Int))(a x:Int):Int:=((M.filter fun m=>decide (aL m.2 a=x)).map (·.1)).sum
structure DJ (W:Int) (A:Nat) (M:List (Int×List Int)):Prop where
 w0 : 0<W
 w1:W<2 ^ 70
 ok:∀ m ∈ M,0<=m.1/\m.1<=W/\m.2.length=A
 ml:M.length<=120
 a6:A<=6
abbrev oX:Stmt:=top 44
theorem SG:bj ["mix", "asker", "one"] ["mix", "asker", "one"] (ah oX):=⟨rfl,rfl,rfl,by decide +kernel,rfl,by decide +kernel,by decide +kernel⟩
def Jr (dd:List Dv)(t:Tr):Prop:=∃ (W:Int) (A:Nat) (M:List (Int×List Int)) (a x:Int),DJ W A M/\0<=a/\a<A/\dd=[.lst (M.map (uJ W)),di a,di x]/\t=tF (fW W (qW M a x))
theorem SH {f f1:Addr}{fd aE:FuncData}{k:Nat}(F:bg K "weight_of" "weight_of" oX f fd)(T:Txt mg)(AU:Kn P w K mg base ao (k+4) "sum_of" f1 aE ["some"] (spT K Cd)):aM P w K mg base ao (k+5) f fd ["mix", "asker", "one"] (spT K Jr):=by
 refine bD F.d SG (fun dd t h=>by obtain ⟨_,_,_,_,_,_,_,_,rfl,_⟩:=h;rfl) fun dd t h=>?_
 obtain ⟨W,A,M,a,x,ky,a0,a1,rfl,rfl⟩:=h
 refine ⟨_,.inl rfl,?_⟩
 have big : 1000<sizeLine:=by decide
 have ml:=ky.ml
 have eF:er (.ow ((M.filter fun m=>decide (aL m.2 a=x)).map fun m=>tF (fW W m.1)))=fj W ((M.filter fun m=>decide (aL m.2 a=x)).map (·.1)):=by
  rw [fk]
  show Dv.lst _=Dv.lst (List.map _ (List.map _ _))
  rw [List.map_map];rfl
 refine aK (cf (Ev.s (aI AU (Nat.le_refl _) (af (Ev.as (pT (own:=["weight", "deal"]) (fr:=[2,1]) M (uJ W) (fun m=>decide (aL m.2 a=x)) (fun m=>tF (fW W m.1)) (fun i=>lcs ⟨rfl,rfl,by decide +kernel,by decide +kernel,by decide +kernel,by decide +kernel⟩) (dD (ae 0 rfl) rfl) (nq 0 1 (fun _=>by show List.Nodup (["weight", "deal", "one", "asker"]:List Str);decide)) (by decide) (by omega) (fun m hm=>⟨_,rfl,by
   exact j6 (jq (dz (ae 1 rfl) (ae 3 rfl) rfl (Cg di a0 (by rw [(ky.ok m hm).2.2];exact a1))) (ae 2 rfl)),fun _=>by exact ae 0 rfl⟩) (fun dd=>by rcases dd with _ | ⟨a,_ | ⟨b,dd⟩⟩<;>rfl)) eF) aq) ⟨W,(M.filter fun m=>decide (aL m.2 a=x)).map (·.1),ky.w0,ky.w1,fun y hy=>?_,?_,rfl,rfl⟩)))
 ·obtain ⟨m,hm,rfl⟩:=List.mem_map.mp hy
  have:=ky.ok m (List.mem_filter.mp hm).1
  exact ⟨this.1,this.2.1⟩
 ·rw [List.length_map]
  have:=List.length_filter_le (fun m:Int×List Int=>decide (aL m.2 a=x)) M
  omega
abbrev Oo (W:Int)(A n:Nat)(M:List (Int×List Int)):Tr:=.ow ((aB A).map fun a=>.ow ((aB (n+1)).map fun x=>tF (fW W (qW M a x))))
abbrev oY:Stmt:=top 45
theorem Ir:bj ["counts", "mix", "askers"] ["counts", "mix"] (ah oY):=⟨rfl,rfl,rfl,by decide +kernel,rfl,by decide +kernel,by decide +kernel⟩
def Aq (dd:List Dv)(t:Tr):Prop:=∃ (W:Int) (A:Nat) (M:List (Int×List Int)) (c:List Int),DJ W A M/\M ≠ []/\c.length<=6/\dd=[dis c,.lst (M.map (uJ W))]/\t=Oo W A c.length M
theorem SJ {f f1:Addr}{fd aE:FuncData}{k:Nat}(F:bg K "shares_of" "shares_of" oY f fd)(T:Txt mg)(Td:Kn P w K mg base ao (k+5) "weight_of" f1 aE ["mix", "asker", "one"] (spT K Jr)):aM P w K mg base ao (k+6) f fd ["counts", "mix"] (spT K Aq):=by
 refine bD F.d Ir (fun dd t h=>by obtain ⟨_,_,_,_,_,_,_,rfl,_⟩:=h;rfl) fun dd t h=>?_
 obtain ⟨W,A,M,c,ky,mne,c6,rfl,rfl⟩:=h
 refine ⟨_,.inl rfl,?_⟩
 have big : 1000<sizeLine:=by decide
 have a6:=ky.a6
 obtain ⟨m0,M',rfl⟩:∃ m0 M',M=m0::M':=by
  cases M with
  |nil=>exact absurd rfl mne
  |cons m0 M'=>exact ⟨m0,M',rfl⟩
 have l0:m0.2.length=A:=(ky.ok m0 (.head _)).2.2
 refine aw (aQ 2 (ck.to (t':=ti A) (Ev.s (cu (xs:=m0.2.map di) T.cg (aV (xs:=[dF (fW W m0.1),dis m0.2]) (d:=dis m0.2) (dz (d:=uJ W m0) (ae 1 rfl) ak rfl (fL (j:=0) rfl)) ak rfl rfl) (.inl rfl))) (by rw [List.length_map,l0])) (fun _=>Ir.nd)) ?_
 generalize m0::M'=M at ky
 refine aK (cf (Ev.s ?_))
 exact jm (own:=["asker"]) (fr:=[1,0]) (aB A) di (fun a=>.ow ((aB (c.length+1)).map fun x=>tF (fW W (qW M a x)))) (fun i=>wU ⟨rfl,rfl,by decide +kernel,by decide +kernel,by decide +kernel,by decide +kernel⟩) (bJ.to (iS T.fM (ae 2 rfl) (by omega)) (Lf A rfl)) (cm 0 (fun _=>by show List.Nodup (["asker", "mix", "counts"]:List Str);decide)) (by decide) (by rw [gI];omega) (fun a ha=>⟨_,rfl,by
   obtain ⟨a0,a1⟩:=gg.mp ha
   exact jm (own:=["one"]) (fr:=[1,0]) (aB (c.length+1)) di (fun x=>tF (fW W (qW M a x))) (fun i=>CH ["asker", "mix", "counts"] ⟨rfl,by decide +kernel,by decide +kernel,by decide +kernel,by decide +kernel⟩ fun y hy=>lM _ _ y hy) (bJ.to (iS T.fM (jj (cu T.cg (ae 2 rfl) (.inl rfl)) ak) (by rw [List.length_map];omega)) (Lf (c.length+1) (by rw [List.length_map];omega))) (cm 0 (fun _=>by show List.Nodup (["one", "mix", "asker"]:List Str);decide)) (by decide) (by rw [gI];omega) (fun x hx=>⟨_,rfl,by
    exact aI Td (Nat.le_refl _) (af (ae 1 rfl) (af (ae 2 rfl) (af (ae 0 rfl) aq))) ⟨W,A,M,a,x,ky,a0,a1,rfl,rfl⟩⟩) (fun dd=>by cases dd<;>rfl)⟩) (fun dd=>by cases dd<;>rfl)
theorem Xl {K:List (List Int)}(nd:K.Nodup)(p:List Int->Bool){e:List Int}(he:e ∈ K):(((K.filter p).map fun d=>(if e=d then 1 else 0:Int))).sum=if p e then 1 else 0:=by
 induction K with
 |nil=>cases he
 |cons d K ih =>
  have EK:=List.nodup_cons.mp nd
  have none_of:∀ K':List (List Int),e ∉ K'->(((K'.filter p).map fun d=>(if e=d then 1 else 0:Int))).sum=0:=by
   intro K' h
   induction K' with
   |nil=>rfl
   |cons x K' Qo =>
    have h1:e ≠ x:=fun z=>h (z ▸ .head _)
    have h2:e ∉ K':=fun z=>h (.tail _ z)
    rw [List.filter_cons]
    split
    ·rw [List.map_cons,List.sum_cons,if_neg h1,Qo h2];rfl
    ·exact Qo h2
  by_cases q:e=d
  ·subst q
   have:=none_of K EK.1
   rw [List.filter_cons]
   by_cases pe:p e=true
   ·rw [if_pos pe,List.map_cons,List.sum_cons,this,if_pos rfl,if_pos pe];rfl
   ·rw [if_neg pe,this,if_neg pe]
  ·have hK:e ∈ K:=by
    rcases List.mem_cons.mp he with z | z
    ·exact absurd z q
    ·exact z
   rw [List.filter_cons]
   split
   ·rw [List.map_cons,List.sum_cons,if_neg q,ih EK.2 hK,Int.zero_add]
   ·exact ih EK.2 hK
theorem sum_add (l:List (List Int))(f g:List Int->Int):(l.map fun d=>f d+g d).sum=(l.map f).sum+(l.map g).sum:=by
 induction l with
 |nil=>rfl
 |cons d l ih=>simp only [List.map_cons,List.sum_cons,ih];omega
theorem Js {K:List (List Int)}(nd:K.Nodup)(p:List Int->Bool):∀ {D:List (List Int)},(∀ d ∈ D,d ∈ K)->(((K.filter p).map fun d=>((D.count d:Nat):Int))).sum=((D.countP p:Nat):Int)
 |[],_=>by
  have:∀ l:List (List Int),(l.map fun d=>((([]:List (List Int)).count d:Nat):Int)).sum=0:=by
   intro l
   induction l with
   |nil=>rfl
   |cons d l ih=>rw [List.map_cons,List.sum_cons,ih];rfl
  rw [this];rfl
 |e::D,h=>by
  have ih:=Js nd p (D:=D) fun d hd=>h d (.tail _ hd)
  have e1:((K.filter p).map fun d=>(((e::D).count d:Nat):Int))=(K.filter p).map fun d=>((D.count d:Nat):Int)+(if e=d then 1 else 0:Int):=List.map_congr_left fun d _=>by
   rw [List.count_cons]
   by_cases q:e=d
   ·simp [q]
   ·simp [q]
  rw [e1,sum_add,ih,Xl nd p (h e (.head _)),List.countP_cons]
  by_cases pe:p e=true
  ·simp [pe]
  ·simp [pe]
def tT (D:List (List Int))(a x:Int):Int:=((D.countP fun d=>decide (aL d a=x):Nat):Int)
def kR (c:List Int)(os:List (List Int)):List (Int×List Int):=(qj c os).map fun d=>(((dm c os).count d:Nat),d)
abbrev wT (os:List (List Int)):Int:=((bX os.length os.length).length:Nat)
theorem Xm (c:List Int)(os:List (List Int)):er (xf c os)=.lst ((kR c os).map (uJ (wT os))):=by
 unfold xf kR
 rw [fk,List.map_map]
 refine congrArg Dv.lst (List.map_congr_left fun d _=>?_)
 show Dv.tup [_,er (aR d)]=_
 rw [gf];rfl
theorem keys_nodup (c:List Int)(os:List (List Int)):(qj c os).Nodup:=(rG _).nodup_iff.mpr (UC _)
theorem mem_keys {c:List Int}{os:List (List Int)}{d:List Int}:d ∈ qj c os ↔ d ∈ dm c os:=(rG _).mem_iff.trans (rF _)
theorem YM (c:List Int)(os:List (List Int))(a x:Int):qW (kR c os) a x=tT (dm c os) a x:=by
 unfold qW kR tT
 rw [List.filter_map,List.map_map]
 exact Js (keys_nodup c os) (fun d=>decide (aL d a=x)) fun d hd=>mem_keys.mpr hd
theorem Lg {c:List Int}{os:List (List Int)}(o5:os.length<=5):DJ (wT os) os.length (kR c os):=by
 have Ll:=An os.length o5
 have al:(dm c os).length=(bX os.length os.length).length:=by unfold dm;rw [List.length_map]
 refine ⟨by show (0:Int)<((bX os.length os.length).length:Nat);omega,by show ((bX os.length os.length).length:Int)<2 ^ 70;exact Int.lt_of_le_of_lt (show _<=(120:Int) by omega) (by decide),fun m hm=>?_,?_,by omega⟩
 ·obtain ⟨d,hd,rfl⟩:=List.mem_map.mp hm
  refine ⟨by show (0:Int)<=((dm c os).count d:Nat);omega,?_,?_⟩
  ·have:=List.count_le_length (a:=d) (l:=dm c os)
   show (((dm c os).count d:Nat):Int)<=((bX os.length os.length).length:Nat)
   omega
  ·obtain ⟨ts,_,rfl⟩:=List.mem_map.mp (mem_keys.mp hd)
   unfold dQ
   rw [List.length_map,rM]
 ·unfold kR qj
  have:=zW (dm c os)
  rw [List.length_map,(rG _).length_eq]
  omega
def yd (W:Int)(A n:Nat)(D:List (List Int)):Tr:=.ow ((aB A).map fun a=>.ow ((aB (n+1)).map fun x=>tF (fW W (tT D a x))))
abbrev mU:Stmt:=top 52
theorem Ih:bj ["table"] ["table"] (ah mU):=⟨rfl,rfl,rfl,by decide +kernel,rfl,by decide +kernel,by decide +kernel⟩
def IC (dd:List Dv)(t:Tr):Prop:=∃ c os,bS c os/\os.length<=5/\dd=[aW c os]/\t=yd (wT os) os.length c.length (dm c os)
theorem RR {f f1 f2:Addr}{fd aE fd2:FuncData}{k:Nat}(F:bg K "turn_shares" "turn_shares" mU f fd)(T:Txt mg)(zM:Kn P w K mg base ao (k+6) "shares_of" f1 aE ["counts", "mix"] (spT K Aq))(TF:Kn P w K mg base ao (k+3) "turn_mix" f2 fd2 ["table"] (spT K J4)):aM P w K mg base ao (k+7) f fd ["table"] (spT K IC):=by
 refine bD F.d Ih (fun dd t h=>by obtain ⟨_,_,_,_,rfl,_⟩:=h;rfl) fun dd t h=>?_
 obtain ⟨c,os,ok,o5,rfl,rfl⟩:=h
 refine ⟨_,.inl rfl,?_⟩
 have ne:kR c os ≠ []:=fun z=>by
  have Ll:=(An os.length o5).1
  have:∃ d,d ∈ dm c os:=by
   cases q:dm c os with
   |nil=>have:=congrArg List.length q;unfold dm at this;rw [List.length_map] at this;simp at this;rw [this] at Ll;simp at Ll
   |cons d _=>exact ⟨d,.head _⟩
  obtain ⟨d,hd⟩:=this
  have:((((dm c os).count d:Nat):Int),d) ∈ kR c os:=List.mem_map.mpr ⟨d,mem_keys.mpr hd,rfl⟩
  rw [z] at this
  cases this
 refine aK (cf (ck.to (Ev.s (aI zM (Nat.le_refl _) (af (aV (d:=dis c) (ae 0 rfl) ak rfl rfl) (af (Ev.as (aI TF (by show k+3<=k+6;omega) (af (ae 0 rfl) aq) ⟨c,os,ok,o5,rfl,rfl⟩) (Xm c os)) aq)) ⟨wT os,os.length,kR c os,c,Lg o5,ne,ok.c6,rfl,rfl⟩)) ?_))
 unfold yd Oo
 simp only [YM]
end
section
variable {P:Program}{w:World}{K:PySem.W.Frag}{mg:Str->Option Value}{base:Heap}
abbrev oH:Stmt:=top 62
theorem RG:bj ["_law_script", "_law_k"] ["_law_script", "_law_k"] (ah oH):=⟨rfl,rfl,rfl,by decide +kernel,rfl,by decide +kernel,by decide +kernel⟩
def CT (dd:List Dv)(t:Tr):Prop:=∃ (ns:List Int) (k:Int),0<=k/\dd=[dis ns,di k]/\t=ti (bR ns k)
theorem RH {f:Addr}{fd:FuncData}{k:Nat}(F:bg K "_law_cell_at" "_law_cell_at" oH f fd)(T:Txt mg):aM P w K mg base ao (k+1) f fd ["_law_script", "_law_k"] (spT K CT):=by
 refine bD F.d RG (fun dd t h=>by obtain ⟨_,_,_,rfl,_⟩:=h;rfl) fun dd t h=>?_
 obtain ⟨ns,j,hj,rfl,rfl⟩:=h
 refine ⟨_,.inl rfl,?_⟩
 by_cases hl:j<ns.length
 ·refine vJ (nr (Et.s (kI (ae 1 rfl) (cu T.cg (ae 0 rfl) (.inl rfl)))) ?_ (aK (cf (Ev.s (dz (ae 0 rfl) (ae 1 rfl) rfl ?_)))))
  ·rw [List.length_map];exact decide_eq_true hl
  ·exact cell_in hj hl
 ·refine aw (dG (Et.s (kI (ae 1 rfl) (cu T.cg (ae 0 rfl) (.inl rfl)))) ?_) ?_
  ·rw [List.length_map];exact decide_eq_false hl
  ·rw [cell_out hj (by omega)]
   exact aK (cf (Ev.s ak))
def bZ (cell:Int)(left:List Int):Nat->Int×List Int×List Int
 |0=>(cell,left,[])
 |k+1=>((bZ cell left k).1 / (bZ cell left k).2.1.length,(bZ cell left k).2.1.eraseIdx ((bZ cell left k).1 % (bZ cell left k).2.1.length).toNat,(bZ cell left k).2.2++[(((bZ cell left k).2.1)[((bZ cell left k).1 % (bZ cell left k).2.1.length).toNat]?).getD 0])
theorem Ar (cell:Int)(left:List Int):∀ k,k<=left.length->((bZ cell left k).2.2++(bZ cell left k).2.1).Perm left/\(bZ cell left k).2.1.length=left.length-k/\(bZ cell left k).2.2.length=k
 |0,_=>⟨.refl _,by simp [bZ],rfl⟩
 |k+1,hk=>by
  obtain ⟨h1,h2,h3⟩:=Ar cell left k (by omega)
  generalize hs:bZ cell left k=s at *
  obtain ⟨c,l,o⟩:=s
  have e:bZ cell left (k+1)=(c / l.length,l.eraseIdx (c % l.length).toNat,o++[(l[(c % l.length).toNat]?).getD 0]):=by
   show ((bZ cell left k).1 / _,_,_)=_
   rw [hs]
  rw [e]
  have hl : 0<l.length:=by have:l.length=left.length-k:=h2;omega
  have m0:=Int.emod_nonneg c (show (l.length:Int) ≠ 0 by omega)
  have m1:=Int.emod_lt_of_pos c (show 0<(l.length:Int) by omega)
  generalize hm:(c % l.length).toNat=m at *
  have EL:m<l.length:=by omega
  refine ⟨?_,?_,by rw [List.length_append];have:o.length=k:=h3;simp [this]⟩
  ·show (o++[(l[m]?).getD 0]++l.eraseIdx m).Perm left
   rw [List.getElem?_eq_getElem EL,Option.getD_some,List.append_assoc]
   exact (List.Perm.append_left o (IK EL)).trans h1
  ·show (l.eraseIdx m).length=_
   rw [List.length_eraseIdx_of_lt EL]
   have:l.length=left.length-k:=h2
   omega
def kJ (cell:Int)(n:Nat):Nat:=if cell % 2=0 then n else (cell / 2 % (n+1)).toNat
def pX (cell:Int)(n:Nat):List Int:=(bZ (cell / (2*n+2)) (aB n) (kJ cell n)).2.2
theorem size_le (cell:Int)(n:Nat):kJ cell n<=n:=by
 unfold kJ
 split
 ·exact Nat.le_refl _
 ·have:=Int.emod_lt_of_pos (cell / 2) (show 0<(n:Int)+1 by omega)
  omega
theorem AV (n:Nat):(aB n).length=n:=by unfold aB;rw [List.length_map,List.length_range]
theorem J6 (cell:Int)(n:Nat):(pX cell n).Nodup/\∀ x ∈ pX cell n,0<=x/\x<n:=by
 obtain ⟨h,_⟩:=Ar (cell / (2*n+2)) (aB n) (kJ cell n) (by rw [AV];exact size_le cell n)
 refine ⟨(List.nodup_append.mp (h.nodup_iff.mpr (Tx n))).1,fun x hx=>gg.mp (h.mem_iff.mp (List.mem_append_left _ hx))⟩
abbrev oU:Stmt:=top 63
theorem lK:bj ["_law_cell", "_law_many", "_law_size", "_law_left", "_law_order_here", "_law_k", "_law_at"] ["_law_cell", "_law_many"] (ah oU):=⟨rfl,rfl,rfl,by decide +kernel,rfl,by decide +kernel,by decide +kernel⟩
def My (dd:List Dv)(t:Tr):Prop:=∃ (cell:Int) (n:Nat),n<=6/\dd=[di cell,di n]/\t=aR (pX cell n)
theorem Sg {f:Addr}{fd:FuncData}{k:Nat}(F:bg K "_law_order" "_law_order" oU f fd)(T:Txt mg):aM P w K mg base ao (k+1) f fd ["_law_cell", "_law_many"] (spT K My):=by
 refine bD F.d lK (fun dd t h=>by obtain ⟨_,_,_,rfl,_⟩:=h;rfl) fun dd t h=>?_
 obtain ⟨cell,n,hn,rfl,rfl⟩:=h
 refine ⟨_,.inl rfl,?_⟩
 have big : 1000<sizeLine:=by decide
 have hsz:=size_le cell n
 refine aw (aQ 2 (Ev.s (dz (d:=di (kJ cell n)) (df (af (ae 1 rfl) (af (eU (jZ (ae 0 rfl) ak ⟨by decide,jQ (by decide) (by decide)⟩) (jj (ae 1 rfl) ak) (by omega)) aq)) (by show 2<=sizeLine;decide)) (eU (ae 0 rfl) ak (by decide)) rfl ?_)) (fun _=>lK.nd)) ?_
 ·show bq [di (n:Int),di (cell / 2 % ((n:Int)+1))] (cell % 2)=_
  have h0:=Int.emod_nonneg cell (show (2:Int) ≠ 0 by decide)
  have h2:=Int.emod_lt_of_pos cell (show (0:Int)<2 by decide)
  unfold kJ
  have:cell % 2=0\/cell % 2=1:=by omega
  rcases this with h | h
  ·rw [h,if_pos rfl];rfl
  ·rw [h,if_neg (by decide)]
   have m0:=Int.emod_nonneg (cell / 2) (show (n:Int)+1 ≠ 0 by omega)
   rw [show (((cell / 2 % ((n:Int)+1)).toNat:Nat):Int)=cell / 2 % ((n:Int)+1) by omega]
   rfl
 refine aw (aQ 0 (Ev.s (jZ (ae 0 rfl) (jj (h9 ak (ae 1 rfl) ⟨jQ (by decide) (by decide),jQ (by omega) (by omega)⟩) ak) ⟨by omega,jQ (by omega) (by omega)⟩)) (fun _=>lK.nd)) ?_
 refine aw (aQ 3 (Ev.s (Ip T.j7 T.fM (ae 1 rfl) (by omega) (by omega))) (fun _=>lK.nd)) ?_
 refine aw (aQ 4 (Ev.s (df aq (Nat.zero_le _))) (fun _=>lK.nd)) ?_
 refine aw (jk (bJ.s (iS T.fM (ae 2 rfl) ⟨by omega,by omega⟩)) (cm 5 (fun _=>lK.nd)) (fun k=>[some (ti (bZ (cell / (2*n+2)) (aB n) k).1),some (ti n),some (ti (kJ cell n)),some (aR (bZ (cell / (2*n+2)) (aB n) k).2.1),some (aR (bZ (cell / (2*n+2)) (aB n) k).2.2),none,none]) rfl (fun _=>rfl) (fun j d hd=>?_)) ?_
 ·obtain ⟨hj,rfl⟩:=vL hd
  have uv:j<kJ cell n:=by omega
  obtain ⟨p1,p2,p3⟩:=Ar (cell / (2*n+2)) (aB n) j (by rw [AV];omega)
  rw [AV] at p2
  have e:bZ (cell / (2*n+2)) (aB n) (j+1)=((bZ (cell / (2*n+2)) (aB n) j).1 / (bZ (cell / (2*n+2)) (aB n) j).2.1.length,(bZ (cell / (2*n+2)) (aB n) j).2.1.eraseIdx ((bZ (cell / (2*n+2)) (aB n) j).1 % (bZ (cell / (2*n+2)) (aB n) j).2.1.length).toNat,(bZ (cell / (2*n+2)) (aB n) j).2.2++[(((bZ (cell / (2*n+2)) (aB n) j).2.1)[((bZ (cell / (2*n+2)) (aB n) j).1 % (bZ (cell / (2*n+2)) (aB n) j).2.1.length).toNat]?).getD 0]):=rfl
  rw [e]
  generalize bZ (cell / (2*n+2)) (aB n) j=s at p1 p2 p3
  obtain ⟨c,l,o⟩:=s
  simp only at p1 p2 p3 ⊢
  have hl : 0<(l.length:Int):=by omega
  have hl6:(l.length:Int)<=6:=by omega
  have m0:=Int.emod_nonneg c (show (l.length:Int) ≠ 0 by omega)
  have m1:=Int.emod_lt_of_pos c hl
  have el:(cE (l.map fun n=>Tr.fz (di n))).length=l.length:=by rw [kC,List.length_map,List.length_map]
  have hlm:(((l.map fun n=>Tr.fz (di n)).length:Nat):Int)=l.length:=by rw [List.length_map]
  refine ⟨_,_,rfl,aw (aQ 6 (ck.to (t':=ti (c % l.length)) (Ev.pk (eU (ae 0 rfl) (cu T.cg (ae 3 rfl) (.inl rfl)) (by rw [el];exact hl)) True.intro) (by rw [el])) (fun _=>lK.nd))
   (aw (aQ 0 (ck.to (t':=ti (c / l.length)) (Ev.pk (jZ (ae 0 rfl) (cu T.cg (ae 3 rfl) (.inl rfl)) (by rw [el];exact ⟨hl,jQ (by omega) (by omega)⟩)) True.intro) (by rw [el])) (fun _=>lK.nd))
   (aK (R7 4 3 (d:=di ((l[(c % l.length).toNat]?).getD 0)) (n:=c % l.length) (m:=(c % l.length).toNat) (by decide) rfl rfl (Ev.s (ae 6 rfl)) ?_ ⟨by omega,by omega⟩ ?_ ?_))),[5,6],?_⟩
  ·rw [List.length_map]
   unfold gv
   rw [if_pos m0,if_pos m1]
  ·rw [List.getElem?_map,List.getElem?_eq_getElem (show (c % l.length).toNat<l.length by omega)]
   rfl
  ·rw [List.length_map];omega
  ·show [_,_,_,some (Tr.ow (List.eraseIdx _ _)),some (Tr.ow (_++[_])),_,_]=[_,_,_,some (Tr.ow _),some (Tr.ow _),_,_]
   rw [List.map_append,Ji]
   rfl
 ·rw [List.length_map,List.length_range]
  show bC _ _ [_,_,_,_,some (aR (bZ (cell / (2*n+2)) (aB n) (kJ cell n)).2.2),_,_] _
  exact aK (kD 4 rfl)
def eW (ns:List Int)(st:Int):List Int:=(List.range 13).map fun k=>bR ns (st+(0+((k:Nat):Int)))
theorem UG (ns:List Int)(st:Int){k:Nat}(hk:k<13):(eW ns st)[k]?=some (bR ns (st+(0+((k:Nat):Int)))):=by
 unfold eW
 rw [List.getElem?_map,List.getElem?_range hk];rfl
def mB (c:Int):Int:=if c / 10 % 2=0 then c % 4 else c % 10
def ef (ns:List Int)(st:Int):Nat:=(bR ns (st+(0+((0:Nat):Int))) % 7).toNat
def jX (ns:List Int)(st:Int):List Int:=(cutD (eW ns st) (some 1) (some (1+(ef ns st:Int)))).map mB
def mC (ns:List Int)(st most:Int):Nat:=(1+bR ns (st+(0+((0:Nat):Int))) / 7 % most).toNat
def nG (ns:List Int)(st:Int)(k:Nat):Int:=if bR ns (st+(0+((0:Nat):Int))) / 42 % 3=0/\1<bR ns (st+(0+((7+k:Nat):Int))) % 5 then bR ns (st+(0+((7:Nat):Int))) else bR ns (st+(0+((7+k:Nat):Int)))
def fN (ns:List Int)(st most:Int):List (List Int):=(List.range (mC ns st most)).map fun k=>pX (nG ns st k) (ef ns st)
theorem AW (ns:List Int)(st:Int):ef ns st<=6:=by
 unfold ef
 have:=Int.emod_lt_of_pos (bR ns (st+(0+((0:Nat):Int)))) (show (0:Int)<7 by decide)
 omega
theorem UH (ns:List Int)(st:Int):bR ns (st+(0+((0:Nat):Int))) % 7=(ef ns st:Int):=by
 unfold ef
 have:=Int.emod_nonneg (bR ns (st+(0+((0:Nat):Int)))) (show (7:Int) ≠ 0 by decide)
 omega
theorem Lh {ns:List Int}{st most:Int}(h1 : 1<=most)(h6:most<=6) : 1<=mC ns st most/\mC ns st most<=6/\(1+bR ns (st+(0+((0:Nat):Int))) / 7 % most=(mC ns st most:Int)):=by
 unfold mC
 have a:=Int.emod_nonneg (bR ns (st+(0+((0:Nat):Int))) / 7) (show most ≠ 0 by omega)
 have b:=Int.emod_lt_of_pos (bR ns (st+(0+((0:Nat):Int))) / 7) (show 0<most by omega)
 omega
theorem Vy {α:Type}(l:List α)(a b:Nat):cutD l (some (a:Int)) (some (b:Int))=(l.drop (min a l.length)).take (min b l.length-min a l.length):=by
 unfold cutD
 rw [HT.Bb,HT.Bb]
theorem IQ (ns:List Int)(st:Int):(jX ns st).length=ef ns st:=by
 unfold jX
 have:=AW ns st
 have e:cutD (eW ns st) (some 1) (some (1+(ef ns st:Int)))=cutD (eW ns st) (some ((1:Nat):Int)) (some ((1+ef ns st:Nat):Int)):=by
  congr 2
 rw [List.length_map,e,Vy,List.length_take,List.length_drop]
 have:(eW ns st).length=13:=by unfold eW;rw [List.length_map,List.length_range]
 omega
theorem Xn (c:Int) : 0<=mB c/\mB c<=9:=by
 unfold mB
 have:=Int.emod_nonneg c (show (4:Int) ≠ 0 by decide)
 have:=Int.emod_lt_of_pos c (show (0:Int)<4 by decide)
 have:=Int.emod_nonneg c (show (10:Int) ≠ 0 by decide)
 have:=Int.emod_lt_of_pos c (show (0:Int)<10 by decide)
 split<;>omega
theorem YN {ns:List Int}{st most:Int}(h1 : 1<=most)(h6:most<=6):bS (jX ns st) (fN ns st most):=by
 obtain ⟨n1,n2,_⟩:=Lh (ns:=ns) (st:=st) h1 h6
 refine ⟨by rw [IQ];exact AW ns st,fun x hx=>?_,?_,?_,fun o ho=>?_,fun o ho x hx=>?_⟩
 ·obtain ⟨c,_,rfl⟩:=List.mem_map.mp hx
  exact Xn c
 ·unfold fN;rw [List.length_map,List.length_range];exact n1
 ·unfold fN;rw [List.length_map,List.length_range];exact n2
 ·obtain ⟨k,_,rfl⟩:=List.mem_map.mp ho
  exact (J6 _ _).1
 ·obtain ⟨k,_,rfl⟩:=List.mem_map.mp ho
  rw [IQ]
  exact (J6 _ _).2 x hx
abbrev oV:Stmt:=top 64
theorem kz:bj ["_law_script", "_law_start", "_law_things", "_law_askers", "_law_cells", "_law_many", "_law_counts", "_law_orders", "_law_k", "_law_cell"] ["_law_script", "_law_start", "_law_things", "_law_askers"] (ah oV):=⟨rfl,rfl,rfl,by decide +kernel,rfl,by decide +kernel,by decide +kernel⟩
def Mz (dd:List Dv)(t:Tr):Prop:=∃ (ns:List Int) (st most:Int),0<=st/\1<=most/\most<=6/\dd=[dis ns,di st,di 6,di most]/\t=.tp [aR (jX ns st),d9 (fN ns st most)]
theorem Sh {f f1 f2:Addr}{fd aE fd2:FuncData}{k:Nat}(F:bg K "_law_table" "_law_table" oV f fd)(T:Txt mg)(zD:Kn P w K mg base ao (k+1) "_law_cell_at" f1 aE ["_law_script", "_law_k"] (spT K CT))(Iu:Kn P w K mg base ao (k+1) "_law_order" f2 fd2 ["_law_cell", "_law_many"] (spT K My)):aM P w K mg base ao (k+2) f fd ["_law_script", "_law_start", "_law_things", "_law_askers"] (spT K Mz):=by
 refine bD F.d kz (fun dd t h=>by obtain ⟨_,_,_,_,_,_,rfl,_⟩:=h;rfl) fun dd t h=>?_
 obtain ⟨ns,st,most,je,h1,h6,rfl,rfl⟩:=h
 refine ⟨_,.inl rfl,?_⟩
 have big : 1000<sizeLine:=by decide
 have hM:=AW ns st
 obtain ⟨n1,n2,n3⟩:=Lh (ns:=ns) (st:=st) h1 h6
 have qF:∀ k:Nat,k<13->bq ((eW ns st).map di) ((k:Nat):Int)=some (di (bR ns (st+(0+((k:Nat):Int))))):=fun k hk=>fL (by rw [List.getElem?_map,UG ns st hk];rfl)
 have xh:(eW ns st).length=13:=by unfold eW;rw [List.length_map,List.length_range]
 refine aw (ρ1:=[some (.fz (dis ns)),some (ti st),some (ti 6),some (ti most),some (.fz (dis (eW ns st))),none,none,none,none,none]) (lW 4 (qB (fh.as (d:=dis (eW ns st)) (xM (own:=["_law_k"]) (fr:=[0,1]) (iS T.fM ak ⟨by decide,by decide⟩) (cm 0 (fun _=>by show List.Nodup (["_law_k", "_law_script", "_law_start"]:List Str);decide)) (by decide) (fun k=>true) (fun k=>ti (bR ns (st+(0+((k:Nat):Int))))) (by rw [List.length_map,List.length_range];show 13<sizeLine;decide) (fun k d hd=>by
   obtain ⟨hk,rfl⟩:=vL hd
   exact ⟨_,rfl,v7,fun _=>aI zD (Nat.le_refl _) (af (ae 1 rfl) (af (jj (ae 2 rfl) (ae 0 rfl)) aq)) ⟨ns,_,by omega,rfl,rfl⟩⟩) (fun dd=>by cases dd<;>rfl)) (by rw [List.filter_eq_self.mpr (fun _ _=>rfl),v8];rfl))) (fun i=>lcs ⟨rfl,rfl,by decide +kernel,by decide +kernel,by decide +kernel,by decide +kernel⟩) (fun _=>kz.nd)) ?_
 refine aw (aQ 5 (ck.to (t':=ti (ef ns st)) (Ev.s (eU (dz (d:=di (bR ns (st+(0+((0:Nat):Int))))) (ae 4 rfl) ak rfl (qF 0 (by decide))) (jj (ae 2 rfl) ak) (by decide))) (by show ti (bR ns (st+(0+((0:Nat):Int))) % 7)=_;rw [UH])) (fun _=>kz.nd)) ?_
 refine aw (lW 6 (qB (tO (own:=["_law_cell"]) (fr:=[]) (cutD (eW ns st) (some 1) (some (1+(ef ns st:Int)))) di (fun c=>ti (mB c)) (bJ.to (dD (AF (ae 4 rfl) rfl (vH ak) (vH (jj ak (ae 5 rfl)))) (pS _)) (Vb _ _ _ _)) (cm 0 (fun _=>by show List.Nodup (["_law_cell"]:List Str);decide)) (by decide) ?_ (fun c hc=>?_) (fun dd=>?_))) (fun i=>lcs ⟨rfl,rfl,by decide +kernel,by decide +kernel,by decide +kernel,by decide +kernel⟩) (fun _=>kz.nd)) ?_
 ·have:=Vc (eW ns st) (some 1) (some (1+(ef ns st:Int)))
  rw [xh] at this
  omega
 ·refine ⟨_,rfl,?_⟩
  refine dz (d:=di (mB c)) (df (af (eU (ae 0 rfl) ak (by decide)) (af (eU (ae 0 rfl) ak (by decide)) aq)) (by show 2<=sizeLine;decide)) (eU (jZ (ae 0 rfl) ak ⟨by decide,jQ (by decide) (by decide)⟩) ak (by decide)) rfl ?_
  show bq [di (c % 4),di (c % 10)] (c / 10 % 2)=_
  have a:=Int.emod_nonneg (c / 10) (show (2:Int) ≠ 0 by decide)
  have b:=Int.emod_lt_of_pos (c / 10) (show (0:Int)<2 by decide)
  unfold mB
  have:c / 10 % 2=0\/c / 10 % 2=1:=by omega
  rcases this with h | h<;>rw [h]<;>rfl
 ·cases dd<;>rfl
 have ecs:Tr.ow ((cutD (eW ns st) (some 1) (some (1+(ef ns st:Int)))).map fun c=>ti (mB c))=aR (jX ns st):=by
  show _=Tr.ow _
  unfold jX
  rw [List.map_map];rfl
 rw [ecs]
 show bC _ _ [some (.fz (dis ns)),some (ti st),some (ti 6),some (ti most),some (.fz (dis (eW ns st))),some (ti (ef ns st)),some (aR (jX ns st)),none,none,none] _
 refine aw (aQ 7 (Ev.s (df aq (Nat.zero_le _))) (fun _=>kz.nd)) ?_
 have yf:sU (bR ns (st+(0+((0:Nat):Int)))) 7:=⟨by decide,jQ (by decide) (by decide)⟩
 have qG:sU (bR ns (st+(0+((0:Nat):Int)))) 42:=⟨by decide,jQ (by decide) (by decide)⟩
 refine aw (jk (its:=iz 0 (mC ns st most)) (bJ.s (bJ.to (iS T.fM (jj ak (eU (jZ (dz (d:=di (bR ns (st+(0+((0:Nat):Int))))) (ae 4 rfl) ak rfl (qF 0 (by decide))) ak yf) (ae 3 rfl) (by omega))) ?_) ?_)) (cm 8 (fun _=>kz.nd)) (fun k=>[some (.fz (dis ns)),some (ti st),some (ti 6),some (ti most),some (.fz (dis (eW ns st))),some (ti (ef ns st)),some (aR (jX ns st)),some (d9 ((fN ns st most).take k)),none,none]) rfl (fun _=>rfl) (fun j d hd=>?_)) ?_
 ·rw [n3];omega
 ·rw [n3,Int.toNat_natCast]
 ·obtain ⟨hj,rfl⟩:=vL hd
  have c7:bq ((eW ns st).map di) (7+(0+(j:Int)))=some (di (bR ns (st+(0+((7+j:Nat):Int))))):=by
   have:=qF (7+j) (by omega)
   rwa [show ((7+j:Nat):Int)=7+(0+(j:Int)) by omega] at this ⊢
  have aal:(fN ns st most)[j]?=some (pX (nG ns st j) (ef ns st)):=by
   unfold fN
   rw [List.getElem?_map,List.getElem?_range hj];rfl
  have hlen:((fN ns st most).take j).length<sizeLine:=by
   rw [List.length_take]
   have:(fN ns st most).length=mC ns st most:=by unfold fN;rw [List.length_map,List.length_range]
   omega
  have fin:d9 ((fN ns st most).take (j+1))=.ow (((fN ns st most).take j).map aR++[aR (pX (nG ns st j) (ef ns st))]):=by
   rw [jR aal]
   show Tr.ow _=_
   rw [List.map_append];rfl
  rw [fin]
  cases hf:decide (bR ns (st+(0+((0:Nat):Int))) / 42 % 3=0)&&decide (1<bR ns (st+(0+((7+j:Nat):Int))) % 5) with
  |true =>
   have ec:nG ns st j=bR ns (st+(0+((7:Nat):Int))):=by
    unfold nG
    rw [Bool.and_eq_true,decide_eq_true_eq,decide_eq_true_eq] at hf
    rw [if_pos hf]
   refine ⟨_,_,rfl,aw (aQ 9 (Ev.s (dz (ae 4 rfl) (jj ak (ae 8 rfl)) rfl c7)) (fun _=>kz.nd)) (aw (nr (Et.s (Ew.et (LQ (jq (eU (jZ (dz (d:=di (bR ns (st+(0+((0:Nat):Int))))) (ae 4 rfl) ak rfl (qF 0 (by decide))) ak qG) ak (by decide)) ak) fun _=>(KH (mh (eU (ae 9 rfl) ak (by decide)) ak))))) hf (aK (aQ 9 (Ev.s (dz (d:=di (bR ns (st+(0+((7:Nat):Int))))) (ae 4 rfl) ak rfl (qF 7 (by decide)))) (fun _=>kz.nd))))
    (aK (rL 7 rfl (Ev.s (aI Iu (Nat.le_refl _) (af (ae 9 rfl) (af (ae 5 rfl) aq)) ⟨_,ef ns st,hM,rfl,rfl⟩)) (by rw [List.length_map];exact hlen)))),[8,9],?_⟩
   rw [ec];rfl
  |false =>
   have ec:nG ns st j=bR ns (st+(0+((7+j:Nat):Int))):=by
    unfold nG
    rw [if_neg]
    intro z
    rw [decide_eq_true z.1,decide_eq_true z.2] at hf
    cases hf
   refine ⟨_,_,rfl,aw (aQ 9 (Ev.s (dz (ae 4 rfl) (jj ak (ae 8 rfl)) rfl c7)) (fun _=>kz.nd)) (aw (dG (Et.s (Ew.et (LQ (jq (eU (jZ (dz (d:=di (bR ns (st+(0+((0:Nat):Int))))) (ae 4 rfl) ak rfl (qF 0 (by decide))) ak qG) ak (by decide)) ak) fun _=>(KH (mh (eU (ae 9 rfl) ak (by decide)) ak))))) hf)
    (aK (rL 7 rfl (Ev.s (aI Iu (Nat.le_refl _) (af (ae 9 rfl) (af (ae 5 rfl) aq)) ⟨_,ef ns st,hM,rfl,rfl⟩)) (by rw [List.length_map];exact hlen)))),[8,9],?_⟩
   rw [ec];rfl
 ·have el:(iz 0 (mC ns st most)).length=(fN ns st most).length:=by unfold fN;simp
  rw [el,List.take_length]
  exact aK (Wo 6 7 (by decide) rfl rfl (fun i=>lU (vW (aF (pv 6) (aF (pv 7) bu)))))
end
section
variable {P:Program}{w:World}{K:PySem.W.Frag}{mg:Str->Option Value}{base:Heap}
theorem MA (p:Int×Int):dI (dF p)<=1:=by
 show dh _+1<=1
 exact Nat.succ_le_succ (su fun d hd=>by
  rcases List.mem_cons.mp hd with rfl | hd
  ·exact Nat.le_refl _
  ·rw [List.mem_singleton.mp hd];exact Nat.le_refl _)
def j9 (aT:List Int)(x:Int):Int:=aT.getD x.toNat 0
def cS (aT:List Int)(full:List Int)(k:Nat):Int:=((full.take k).map (j9 aT)).sum
theorem Jt {aT full:List Int}{k:Nat}{x:Int}(h:full[k]?=some x):cS aT full (k+1)=cS aT full k+j9 aT x:=by
 unfold cS
 rw [jR h,List.map_append,List.sum_append]
 simp
structure kc (W:Int) (n:Nat) (aT:List Int):Prop where
 w0 : 0<W
 w1:W<2 ^ 70
 len:aT.length=n+1
 t0:∀ t ∈ aT,0<=t/\t<=W
theorem J7 {W:Int}{n:Nat}{aT:List Int}(h:kc W n aT)(x:Int) : 0<=j9 aT x/\j9 aT x<=W:=by
 unfold j9
 rw [List.getD_eq_getElem?_getD]
 cases q:aT[x.toNat]? with
 |none=>exact ⟨Int.le_refl _,Int.le_of_lt h.w0⟩
 |some t=>exact h.t0 t (List.mem_of_getElem? q)
theorem Bs {W:Int}{n:Nat}{aT:List Int}(h:kc W n aT)(full:List Int):∀ k,0<=cS aT full k/\cS aT full k<=k*W
 |0=>by show 0<=(0:Int)/\(0:Int)<=((0:Nat):Int)*W;omega
 |k+1=>by
  have ih:=Bs h full k
  cases q:full[k]? with
  |none =>
   have hk:full.length<=k:=by
    rcases Nat.lt_or_ge k full.length with z | z
    ·rw [List.getElem?_eq_getElem z] at q;cases q
    ·exact z
   have e:cS aT full (k+1)=cS aT full k:=by unfold cS;rw [List.take_of_length_le hk,List.take_of_length_le (by omega)]
   rw [e]
   have:=h.w0
   refine ⟨ih.1,Int.le_trans ih.2 ?_⟩
   exact Int.mul_le_mul_of_nonneg_right (by omega) (by omega)
  |some x =>
   rw [Jt q]
   have:=J7 h x
   have e:(((k+1:Nat)):Int)*W=k*W+W:=by rw [Int.natCast_succ,Int.add_mul,Int.one_mul]
   rw [e];omega
theorem AX {W s:Int}{m:Nat}(h : 0<W)(w1:W<2 ^ 70)(s0 : 0<=s)(s1:s<=m*W)(hm:m<=100):fP (fW W s):=by
 have a:=jo (s:=s) h
 have b:=Nc (s:=s) h
 have c:=L7 (s:=s) h
 have d:(m:Int)*W<=100*2 ^ 70:=Int.mul_le_mul (by omega) (by omega) (by omega) (by decide)
 refine ⟨a,?_,?_⟩
 ·have:(fW W s).2.natAbs<=2 ^ 70:=by omega
  exact Nat.lt_of_le_of_lt this (by decide)
 ·have:(fW W s).1.natAbs<=100*2 ^ 70:=by omega
  exact Nat.lt_of_le_of_lt this (by decide)
def ki (W:Int)(aT full:List Int)(k:Nat):List Tr:=(List.range k).map fun j=>tF (fW W (cS aT full (j+1)))
theorem UI (W:Int)(aT full:List Int)(k:Nat):ki W aT full (k+1)=ki W aT full k++[tF (fW W (cS aT full (k+1)))]:=by
 unfold ki
 rw [List.range_succ,List.map_append];rfl
theorem rowAt {W:Int}{n:Nat}{aT:List Int}(h:kc W n aT){x:Int}(x0 : 0<=x)(x1:x<=n):bq ((aT.map (fW W)).map dF) x=some (dF (fW W (j9 aT x))):=by
 obtain ⟨m,rfl⟩:∃ m:Nat,x=(m:Int):=⟨x.toNat,by omega⟩
 have hm:m<aT.length:=by rw [h.len];omega
 refine fL ?_
 unfold j9
 rw [List.getElem?_map,List.getElem?_map,List.getD_eq_getElem?_getD,Int.toNat_natCast,List.getElem?_eq_getElem hm];rfl
theorem Li {n:Nat}{o:List Int}(h:∀ x ∈ o,0<=x/\x<n):∀ x ∈ bb n o,0<=x/\x<=n:=fun x hx=>by
 unfold bb mn at hx
 rcases List.mem_append.mp hx with z | z
 ·rcases List.mem_append.mp z with z | z
  ·have:=h x z;omega
  ·rw [List.mem_singleton] at z;omega
 ·obtain ⟨k,hk,rfl⟩:=List.mem_map.mp z
  have:=List.mem_range.mp (List.mem_filter.mp hk).1
  omega
theorem AY {n:Nat}(o:List Int):(bb n o).length<=o.length+1+n:=by
 have:=Ag n o
 unfold bb
 simp only [List.length_append,List.length_singleton];omega
abbrev pY:Stmt:=top 41
theorem sC:bj ["table", "asker", "row", "told", "total", "one"] ["table", "asker", "row"] (ah pY):=⟨rfl,rfl,rfl,by decide +kernel,rfl,by decide +kernel,by decide +kernel⟩
def Ny (dd:List Dv)(t:Tr):Prop:=∃ (c:List Int) (os:List (List Int)) (a:Int) (o:List Int) (W:Int) (aT:List Int),c.length<=6/\o.length<=6/\(∀ x ∈ o,0<=x/\x<c.length)/\bq os a=some o/\kc W c.length aT /\
 dd=[aW c os,di a,.lst ((aT.map (fW W)).map dF)]/\t=.ow (ki W aT (bb c.length o) (bb c.length o).length)
theorem Xo {f f1 f2 f3:Addr}{fd aE fd2 fJ:FuncData}{k:Nat}{tk:Tok}(F:bg K "sums" "sums" pY f fd)(T:Txt mg)(cO:Kn P w K mg base ao (k+2) "fraction" f1 aE ["top", "bottom"] (spT K gN))(B1:Binds K aE ["top", "bottom"] [.int 1 tk])(rB:Kn P w K mg base ao (k+1) "full_order" f2 fd2 ["table", "asker"] (spT K wJ))(Ce:Kn P w K mg base ao (k+3) "plus" f3 fJ ["one", "other"] (spT K CP)):aM P w K mg base ao (k+4) f fd ["table", "asker", "row"] (spT K Ny):=by
 refine bD F.d sC (fun dd t h=>by obtain ⟨_,_,_,_,_,_,_,_,_,_,_,rfl,_⟩:=h;rfl) fun dd t h=>?_
 obtain ⟨c,os,a,o,W,aT,c6,o6,kS,jL,ok,rfl,rfl⟩:=h
 refine ⟨_,.inl rfl,?_⟩
 have big : 1000<sizeLine:=by decide
 have fl:=AY (n:=c.length) o
 have fin:=Li kS
 have w0:=ok.w0
 refine aw (aQ 3 (Ev.s (df aq (Nat.zero_le _))) (fun _=>sC.nd)) ?_
 have e0:(lT 0 1,lB 0 1)=fW W (cS aT (bb c.length o) 0):=by
  rw [show cS aT (bb c.length o) 0=0 from rfl]
  exact pH w0 (by decide) (by rw [Int.zero_mul,Int.zero_mul])
 refine aw (aQ 4 (ck.to (t':=tF (fW W (cS aT (bb c.length o) 0))) (Ev.s (lO cO B1 (by show k+2<=k+3;omega) (af ak aq) ⟨0,1,by decide,jQ (by decide) (by decide),rfl,rfl⟩)) (by rw [e0])) (fun _=>sC.nd)) ?_
 refine aw (jk (bJ.s (dD (aI rB (by show k+1<=k+3;omega) (af (ae 0 rfl) (af (ae 1 rfl) aq)) ⟨c,os,a,o,by omega,by omega,jL,rfl,rfl⟩) (gf _))) (cm 5 (fun _=>sC.nd)) (fun k=>[some (.fz (aW c os)),some (ti a),some (.fz (.lst ((aT.map (fW W)).map dF))),some (.ow (ki W aT (bb c.length o) k)),some (tF (fW W (cS aT (bb c.length o) k))),none]) rfl (fun _=>rfl) (fun j d hd=>?_)) ?_
 ·obtain ⟨x,hx,rfl⟩:=iV hd
  obtain ⟨x0,x1⟩:=fin x (List.mem_of_getElem? hx)
  have hj:j<(bb c.length o).length:=by
   rcases Nat.lt_or_ge j (bb c.length o).length with z | z
   ·exact z
   ·rw [List.getElem?_eq_none z] at hx;cases hx
  obtain ⟨s0,s1⟩:=Bs ok (bb c.length o) j
  obtain ⟨t0,t1⟩:=J7 ok x
  have pl:(ki W aT (bb c.length o) j).length=j:=by unfold ki;rw [List.length_map,List.length_range]
  rw [UI,Jt hx]
  generalize ki W aT (bb c.length o) j=L at pl
  generalize cS aT (bb c.length o) j=S at s0 s1
  have sm1:fP (fW W S):=AX w0 ok.w1 s0 s1 (by omega)
  have ER:fP (fW W (j9 aT x)):=AX (m:=1) w0 ok.w1 t0 (by omega) (by decide)
  exact ⟨_,_,rfl,aw (aQ 4 (ck.to (t':=tF (fW W (S+j9 aT x))) (Ev.s (aI Ce (Nat.le_refl _) (af (ae 4 rfl) (af (dz (ae 2 rfl) (ae 5 rfl) rfl (rowAt ok x0 x1)) aq)) ⟨fW W S,fW W (j9 aT x),sm1,ER,rfl,rfl⟩)) (by rw [KP w0])) (fun _=>sC.nd)) (aK (rL 3 rfl (Ev.s (ae 4 rfl)) (by omega))),[5],rfl⟩
 ·rw [List.length_map]
  exact aK (kD 3 rfl)
theorem J8 {W s t:Int}(h : 0<W):(lT ((fW W s).1*(fW W t).2-(fW W t).1*(fW W s).2) ((fW W s).2*(fW W t).2),lB ((fW W s).1*(fW W t).2-(fW W t).1*(fW W s).2) ((fW W s).2*(fW W t).2))=fW W (s-t):=by
 have p1:=jo (s:=s) h
 have p2:=jo (s:=t) h
 have c1:=jS (s:=s) h
 have c2:=jS (s:=t) h
 generalize (fW W s).1=a at *
 generalize (fW W s).2=b at *
 generalize (fW W t).1=c at *
 generalize (fW W t).2=d at *
 refine pH h (by have:=Int.mul_pos p1 p2;omega) ?_
 have e1:(a*d-c*b)*W=(a*W)*d-(c*W)*b:=by
  rw [Int.sub_mul,Int.mul_right_comm a d W,Int.mul_right_comm c b W]
 rw [e1,c1,c2,Int.sub_mul,Int.mul_assoc s b d,Int.mul_assoc t d b,Int.mul_comm d b]
theorem Vz {W s c:Int}(h : 0<W):(lT ((fW W s).1*c) ((fW W s).2*1),lB ((fW W s).1*c) ((fW W s).2*1))=fW W (s*c):=by
 have p1:=jo (s:=s) h
 have c1:=jS (s:=s) h
 generalize (fW W s).1=a at *
 generalize (fW W s).2=b at *
 refine pH h (by omega) ?_
 rw [Int.mul_one,Int.mul_right_comm a c W,c1,Int.mul_right_comm]
theorem Xp {W s c:Int}(h : 0<W)(hc : 0<c)(hd:c ∣ s):(lT ((fW W s).1*1) ((fW W s).2*c),lB ((fW W s).1*1) ((fW W s).2*c))=fW W (s / c):=by
 have p1:=jo (s:=s) h
 have c1:=jS (s:=s) h
 generalize (fW W s).1=a at *
 generalize (fW W s).2=b at *
 obtain ⟨q,rfl⟩:=hd
 rw [Int.mul_ediv_cancel_left _ (by omega)]
 refine pH h (by have:=Int.mul_pos p1 hc;omega) ?_
 rw [Int.mul_one,c1,Int.mul_comm c q,Int.mul_assoc,Int.mul_comm c b]
theorem YQ {W c:Int}(h : 0<W):(c,(1:Int))=fW W (c*W):=by
 rw [<- nF]
 exact pH h (by decide) (by rw [Int.mul_one])
theorem MB {c:Int}(h0 : 0<=c)(h1:c<1000):fP (c,1):=⟨by show (0:Int)<1;decide,by show (1:Int).natAbs<2 ^ 90;decide,Nat.lt_of_le_of_lt (show c.natAbs<=1000 by omega) (by decide)⟩
abbrev pM:Stmt:=top 20
theorem VA:bj ["one", "other"] ["one", "other"] (ah pM):=⟨rfl,rfl,rfl,by decide +kernel,rfl,by decide +kernel,by decide +kernel⟩
def Ci (dd:List Dv)(t:Tr):Prop:=∃ p q:Int×Int,fP p/\fP q/\dd=[dF p,dF q]/\t=tF (lT (p.1*q.2-q.1*p.2) (p.2*q.2),lB (p.1*q.2-q.1*p.2) (p.2*q.2))
theorem VB {f f1:Addr}{fd aE:FuncData}{k:Nat}(F:bg K "minus" "minus" pM f fd)(T:Txt mg)(cO:Kn P w K mg base ao (k+2) "fraction" f1 aE ["top", "bottom"] (spT K gN)):aM P w K mg base ao (k+3) f fd ["one", "other"] (spT K Ci):=by
 refine bD F.d VA (fun dd t h=>by obtain ⟨_,_,_,_,rfl,_⟩:=h;rfl) fun dd t h=>?_
 obtain ⟨p,q,⟨p1,p2,p3⟩,⟨q1,q2,q3⟩,rfl,rfl⟩:=h
 refine ⟨_,.inl rfl,?_⟩
 have fI:∀ r:Int×Int,bq [di r.1,di r.2] 0=some (di r.1):=fun _=>rfl
 have fi:∀ r:Int×Int,bq [di r.1,di r.2] 1=some (di r.2):=fun _=>rfl
 exact aK (cf (Ev.s (aI cO (Nat.le_refl _) (af (Yb (h9 (aV (ae 0 rfl) ak rfl (fI p)) (aV (ae 1 rfl) ak rfl (fi q)) ⟨cA p3 (by decide),cA q2 (by decide)⟩) (h9 (aV (ae 1 rfl) ak rfl (fI q)) (aV (ae 0 rfl) ak rfl (fi p)) ⟨cA q3 (by decide),cA p2 (by decide)⟩)) (af (h9 (aV (ae 0 rfl) ak rfl (fi p)) (aV (ae 1 rfl) ak rfl (fi q)) ⟨cA p2 (by decide),cA q2 (by decide)⟩) aq)) ⟨_,_,Int.mul_pos p1 q1,cA (wa p2 q2) (by decide),rfl,rfl⟩)))
abbrev pN:Stmt:=top 21
theorem VC:bj ["one", "other"] ["one", "other"] (ah pN):=⟨rfl,rfl,rfl,by decide +kernel,rfl,by decide +kernel,by decide +kernel⟩
def MC (dd:List Dv)(t:Tr):Prop:=∃ p q:Int×Int,fP p/\fP q/\dd=[dF p,dF q]/\t=tF (lT (p.1*q.1) (p.2*q.2),lB (p.1*q.1) (p.2*q.2))
theorem VD {f f1:Addr}{fd aE:FuncData}{k:Nat}(F:bg K "times" "times" pN f fd)(T:Txt mg)(cO:Kn P w K mg base ao (k+2) "fraction" f1 aE ["top", "bottom"] (spT K gN)):aM P w K mg base ao (k+3) f fd ["one", "other"] (spT K MC):=by
 refine bD F.d VC (fun dd t h=>by obtain ⟨_,_,_,_,rfl,_⟩:=h;rfl) fun dd t h=>?_
 obtain ⟨p,q,⟨p1,p2,p3⟩,⟨q1,q2,q3⟩,rfl,rfl⟩:=h
 refine ⟨_,.inl rfl,?_⟩
 have fI:∀ r:Int×Int,bq [di r.1,di r.2] 0=some (di r.1):=fun _=>rfl
 have fi:∀ r:Int×Int,bq [di r.1,di r.2] 1=some (di r.2):=fun _=>rfl
 exact aK (cf (Ev.s (aI cO (Nat.le_refl _) (af (h9 (aV (ae 0 rfl) ak rfl (fI p)) (aV (ae 1 rfl) ak rfl (fI q)) ⟨cA p3 (by decide),cA q3 (by decide)⟩) (af (h9 (aV (ae 0 rfl) ak rfl (fi p)) (aV (ae 1 rfl) ak rfl (fi q)) ⟨cA p2 (by decide),cA q2 (by decide)⟩) aq)) ⟨_,_,Int.mul_pos p1 q1,cA (wa p2 q2) (by decide),rfl,rfl⟩)))
abbrev pZ:Stmt:=top 22
theorem Xq:bj ["one", "other"] ["one", "other"] (ah pZ):=⟨rfl,rfl,rfl,by decide +kernel,rfl,by decide +kernel,by decide +kernel⟩
def Nz (dd:List Dv)(t:Tr):Prop:=∃ p q:Int×Int,fP p/\fP q/\0<q.1/\dd=[dF p,dF q]/\t=tF (lT (p.1*q.2) (p.2*q.1),lB (p.1*q.2) (p.2*q.1))
theorem Xr {f f1:Addr}{fd aE:FuncData}{k:Nat}(F:bg K "over" "over" pZ f fd)(T:Txt mg)(cO:Kn P w K mg base ao (k+2) "fraction" f1 aE ["top", "bottom"] (spT K gN)):aM P w K mg base ao (k+3) f fd ["one", "other"] (spT K Nz):=by
 refine bD F.d Xq (fun dd t h=>by obtain ⟨_,_,_,_,_,rfl,_⟩:=h;rfl) fun dd t h=>?_
 obtain ⟨p,q,⟨p1,p2,p3⟩,⟨q1,q2,q3⟩,qp,rfl,rfl⟩:=h
 refine ⟨_,.inl rfl,?_⟩
 have fI:∀ r:Int×Int,bq [di r.1,di r.2] 0=some (di r.1):=fun _=>rfl
 have fi:∀ r:Int×Int,bq [di r.1,di r.2] 1=some (di r.2):=fun _=>rfl
 refine aw (dG (Et.s (jq (aV (ae 1 rfl) ak rfl (fI q)) ak)) (decide_eq_false (by omega))) ?_
 exact aK (cf (Ev.s (aI cO (Nat.le_refl _) (af (h9 (aV (ae 0 rfl) ak rfl (fI p)) (aV (ae 1 rfl) ak rfl (fi q)) ⟨cA p3 (by decide),cA q2 (by decide)⟩) (af (h9 (aV (ae 0 rfl) ak rfl (fi p)) (aV (ae 1 rfl) ak rfl (fI q)) ⟨cA p2 (by decide),cA q3 (by decide)⟩) aq)) ⟨_,_,Int.mul_pos p1 qp,cA (wa p2 q3) (by decide),rfl,rfl⟩)))
def Cj (p q:Int×Int):Bool:=decide (p.1*q.2<q.1*p.2)
def Ck (dd:List Dv)(t:Tr):Prop:=∃ p q:Int×Int,fP p/\fP q/\dd=[dF p,dF q]/\t=tb (Cj p q)
abbrev pO:Stmt:=top 23
theorem VE:bj ["one", "other"] ["one", "other"] (ah pO):=⟨rfl,rfl,rfl,by decide +kernel,rfl,by decide +kernel,by decide +kernel⟩
theorem VF {f:Addr}{fd:FuncData}{k:Nat}(F:bg K "under" "under" pO f fd)(T:Txt mg):aM P w K mg base ao (k+1) f fd ["one", "other"] (spT K Ck):=by
 refine bD F.d VE (fun dd t h=>by obtain ⟨_,_,_,_,rfl,_⟩:=h;rfl) fun dd t h=>?_
 obtain ⟨p,q,⟨p1,p2,p3⟩,⟨q1,q2,q3⟩,rfl,rfl⟩:=h
 refine ⟨_,.inl rfl,?_⟩
 have fI:∀ r:Int×Int,bq [di r.1,di r.2] 0=some (di r.1):=fun _=>rfl
 have fi:∀ r:Int×Int,bq [di r.1,di r.2] 1=some (di r.2):=fun _=>rfl
 exact aK (cf (Ev.s (CF (h9 (aV (ae 0 rfl) ak rfl (fI p)) (aV (ae 1 rfl) ak rfl (fi q)) ⟨cA p3 (by decide),cA q2 (by decide)⟩) (h9 (aV (ae 1 rfl) ak rfl (fI q)) (aV (ae 0 rfl) ak rfl (fi p)) ⟨cA q3 (by decide),cA p2 (by decide)⟩))))
theorem AZ {W s t:Int}(h : 0<W):Cj (fW W s) (fW W t)=decide (s<t):=by
 unfold Cj
 rw [decide_eq_decide]
 exact Zn h
def NA (t1 t2 full:List Int):List Bool:=(List.range full.length).map fun k=>decide (cS t1 full (k+1)<cS t2 full (k+1))
def tq (t1 t2 full:List Int):Bool:=!(NA t1 t2 full).any id
def nN (W:Int)(aT full:List Int)(k:Nat):List (Int×Int):=(List.range k).map fun j=>fW W (cS aT full (j+1))
theorem Lj (W:Int)(aT full:List Int)(k:Nat):er (.ow (ki W aT full k))=.lst ((nN W aT full k).map dF):=by
 unfold ki nN
 rw [fk,List.map_map];rfl
theorem Xs (W:Int)(t1 t2 full:List Int)(m:Nat):qA ((nN W t1 full m).map dF) ((nN W t2 full m).map dF)=(List.range m).map fun j=>.tup [dF (fW W (cS t1 full (j+1))),dF (fW W (cS t2 full (j+1)))]:=by
 unfold nN
 rw [List.map_map,List.map_map]
 have gen:∀ (f g:Nat->Dv) (l:List Nat),qA (l.map f) (l.map g)=l.map fun a=>.tup [f a,g a]:=fun f g l=>by
  induction l with
  |nil=>rfl
  |cons a l ih =>
   show Dv.tup [f a,g a]::qA (l.map f) (l.map g)=_
   rw [ih];rfl
 exact gen _ _ _
theorem Ju {W:Int}{n m:Nat}{aT full:List Int}(h:kc W n aT)(hm:m<=100):fP (fW W (cS aT full m)):=by
 obtain ⟨a,b⟩:=Bs h full m
 exact AX h.w0 h.w1 a b hm
def fE (W:Int)(aT:List Int):Dv:=.lst ((aT.map (fW W)).map dF)
abbrev pB:Stmt:=top 42
theorem zX:bj ["table", "asker", "one", "other", "own", "others"] ["table", "asker", "one", "other"] (ah pB):=⟨rfl,rfl,rfl,by decide +kernel,rfl,by decide +kernel,by decide +kernel⟩
def NB (dd:List Dv)(t:Tr):Prop:=∃ (c:List Int) (os:List (List Int)) (a:Int) (o:List Int) (W:Int) (t1 t2:List Int),c.length<=6/\o.length<=6/\(∀ x ∈ o,0<=x/\x<c.length)/\bq os a=some o/\kc W c.length t1/\kc W c.length t2 /\
 dd=[aW c os,di a,fE W t1,fE W t2]/\t=tb (tq t1 t2 (bb c.length o))
theorem TH {f f1 f2:Addr}{fd aE fd2:FuncData}{k:Nat}(F:bg K "as_good" "as_good" pB f fd)(T:Txt mg)(MD:Kn P w K mg base ao (k+4) "sums" f1 aE ["table", "asker", "row"] (spT K Ny))(vP:Kn P w K mg base ao (k+1) "under" f2 fd2 ["one", "other"] (spT K Ck)):aM P w K mg base ao (k+5) f fd ["table", "asker", "one", "other"] (spT K NB):=by
 refine bD F.d zX (fun dd t h=>by obtain ⟨_,_,_,_,_,_,_,_,_,_,_,_,_,rfl,_⟩:=h;rfl) fun dd t h=>?_
 obtain ⟨c,os,a,o,W,t1,t2,c6,o6,kS,jL,k1,k2,rfl,rfl⟩:=h
 refine ⟨_,.inl rfl,?_⟩
 have big : 1000<sizeLine:=by decide
 have fl:=AY (n:=c.length) o
 refine aw (aQ 4 (Ev.s (Ev.as (d:=.lst ((nN W t1 (bb c.length o) (bb c.length o).length).map dF)) (aI MD (Nat.le_refl _) (af (ae 0 rfl) (af (ae 1 rfl) (af (ae 2 rfl) aq))) ⟨c,os,a,o,W,t1,c6,o6,kS,jL,k1,rfl,rfl⟩) (Lj _ _ _ _))) (fun _=>zX.nd)) ?_
 refine aw (aQ 5 (Ev.s (Ev.as (d:=.lst ((nN W t2 (bb c.length o) (bb c.length o).length).map dF)) (aI MD (Nat.le_refl _) (af (ae 0 rfl) (af (ae 1 rfl) (af (ae 3 rfl) aq))) ⟨c,os,a,o,W,t2,c6,o6,kS,jL,k2,rfl,rfl⟩) (Lj _ _ _ _))) (fun _=>zX.nd)) ?_
 generalize bb c.length o=full at fl
 refine aK (cf (ck.to (Ev.s (LV (BW (bs:=NA t1 t2 full) T.CO (jm (own:=["mine", "theirs"]) (fr:=[]) (List.range full.length) (fun j=>.tup [dF (fW W (cS t1 full (j+1))),dF (fW W (cS t2 full (j+1)))]) (fun j=>tb (decide (cS t1 full (j+1)<cS t2 full (j+1)))) (fun i=>lcs ⟨rfl,rfl,by decide +kernel,by decide +kernel,by decide +kernel,by decide +kernel⟩) (bJ.to (We T.ZC (ae 4 rfl) (ae 5 rfl) rfl rfl) (Xs W t1 t2 full full.length)) (nq 0 1 (fun _=>by show List.Nodup (["mine", "theirs"]:List Str);decide)) (by decide) (by rw [List.length_range];omega) (fun j hj=>⟨_,rfl,by
   have uv:=List.mem_range.mp hj
   exact Ev.to (aI vP (by show k+1<=k+4;omega) (af (ae 0 rfl) (af (ae 1 rfl) aq)) ⟨_,_,Ju k1 (by omega),Ju k2 (by omega),rfl,rfl⟩) (by rw [AZ k1.w0])⟩) (fun dd=>by rcases dd with _ | ⟨_,_ | ⟨_,_⟩⟩<;>rfl)) (Bq _ _)))) rfl))
end
section
variable {P:Program}{w:World}{K:PySem.W.Frag}{mg:Str->Option Value}{base:Heap}
def xi (l:List Int):Int:=l.foldl min (l.headD 0)
theorem zH (l:List Int):∀ a:Int,l.foldl min a<=a/\(∀ x ∈ l,l.foldl min a<=x)/\(l.foldl min a=a\/l.foldl min a ∈ l):=by
 induction l with
 |nil=>intro a;exact ⟨Int.le_refl _,fun _ h=>(nomatch h),.inl rfl⟩
 |cons y l ih =>
  intro a
  obtain ⟨h1,h2,h3⟩:=ih (min a y)
  rw [List.foldl_cons]
  refine ⟨by omega,fun x hx=>?_,?_⟩
  ·rcases List.mem_cons.mp hx with rfl | hx
   ·omega
   ·exact h2 x hx
  ·rcases h3 with h3 | h3
   ·rcases Int.le_total a y with z | z
    ·left;omega
    ·right;rw [h3,Int.min_eq_right z];exact .head _
   ·right;exact .tail _ h3
theorem Xu {l:List Int}{x:Int}(h:x ∈ l):xi l<=x:=(zH l _).2.1 x h
theorem VG {l:List Int}(h:l ≠ []):xi l ∈ l:=by
 cases l with
 |nil=>exact absurd rfl h
 |cons a r =>
  rcases (zH (a::r) a).2.2 with z | z
  ·show (a::r).foldl min a ∈ _
   rw [z];exact .head _
  ·exact z
abbrev o8:Stmt:=top 25
theorem vd:bj ["some", "least", "one"] ["some"] (ah o8):=⟨rfl,rfl,rfl,by decide +kernel,rfl,by decide +kernel,by decide +kernel⟩
def J9 (dd:List Dv)(t:Tr):Prop:=∃ (W:Int) (ss:List Int),0<W/\W<2 ^ 70/\ss ≠ []/\(∀ s ∈ ss,0<=s/\s<=100*W)/\dd=[fj W ss]/\t=tF (fW W (xi ss))
theorem Te {f f1:Addr}{fd aE:FuncData}{k:Nat}(F:bg K "least_of" "least_of" o8 f fd)(T:Txt mg)(vP:Kn P w K mg base ao (k+1) "under" f1 aE ["one", "other"] (spT K Ck)):aM P w K mg base ao (k+2) f fd ["some"] (spT K J9):=by
 refine bD F.d vd (fun dd t h=>by obtain ⟨_,_,_,_,_,_,rfl,_⟩:=h;rfl) fun dd t h=>?_
 obtain ⟨W,ss,w0,w1,ne,sb,rfl,rfl⟩:=h
 refine ⟨_,.inl rfl,?_⟩
 have h0:bq (ss.map fun s=>dF (fW W s)) 0=some (dF (fW W (ss.headD 0))):=by
  cases ss with
  |nil=>exact absurd rfl ne
  |cons a r=>exact fL (j:=0) rfl
 refine aw (aQ 1 (Ev.s (dz (ae 0 rfl) ak rfl h0)) (fun _=>vd.nd)) ?_
 have hm:∀ j,(ss.take j).foldl min (ss.headD 0) ∈ ss:=fun j=>by
  have hh:ss.headD 0 ∈ ss:=by
   cases ss with
   |nil=>exact absurd rfl ne
   |cons a r=>exact .head _
  rcases (zH (ss.take j) (ss.headD 0)).2.2 with z | z
  ·rw [z];exact hh
  ·exact List.mem_of_mem_take z
 refine aw (jk (bJ.s (dD (ae 0 rfl) rfl)) (cm 2 (fun _=>vd.nd)) (fun j=>[some (.fz (fj W ss)),some (tF (fW W ((ss.take j).foldl min (ss.headD 0)))),none]) rfl (fun _=>rfl) (fun j d hd=>?_)) ?_
 ·obtain ⟨x,hx,rfl⟩:=iV hd
  have hb:=sb x (List.mem_of_getElem? hx)
  have hl:=sb _ (hm j)
  refine ⟨_,[some (.fz (fj W ss)),some (tF (fW W ((ss.take (j+1)).foldl min (ss.headD 0)))),some (tF (fW W x))],rfl,?_,[2],rfl⟩
  rw [jR hx,List.foldl_append]
  show bC _ _ _ (.nx [_,some (tF (fW W (min ((ss.take j).foldl min (ss.headD 0)) x))),_])
  generalize (ss.take j).foldl min (ss.headD 0)=m at hl
  rcases Int.lt_or_le x m with z | z
  ·rw [show min m x=x by omega]
   exact aK (nr (Et.s (j5 (Ev.to (aI vP (by show k+1<=k+1;omega) (af (ae 2 rfl) (af (ae 1 rfl) aq)) ⟨fW W x,fW W m,iZ w0 w1 hb.1 (by omega),iZ w0 w1 hl.1 (by omega),rfl,rfl⟩) (t':=tb true) (by rw [AZ w0,decide_eq_true z])))) rfl (aK (aQ 1 (Ev.s (ae 2 rfl)) (fun _=>vd.nd))))
  ·rw [show min m x=m by omega]
   exact aK (dG (Et.s (j5 (Ev.to (aI vP (by show k+1<=k+1;omega) (af (ae 2 rfl) (af (ae 1 rfl) aq)) ⟨fW W x,fW W m,iZ w0 w1 hb.1 (by omega),iZ w0 w1 hl.1 (by omega),rfl,rfl⟩) (t':=tb false) (by rw [AZ w0,decide_eq_false (by omega)])))) rfl)
 ·rw [List.length_map,List.take_length]
  exact aK (cf (Ev.s (ae 1 rfl)))
def WM:Int:=2799360000000
structure dY where
 len:Int
 au:List Int
 fin:List Int
def dc (l:List Int):List Int:=(aB l.length).filter fun x=>decide (aL l x=0)
def bz (fo:List (List Int))(l:List Int):List Int:=fo.map fun o=>(fQ o (dc l)).headD 0
def kT (l au:List Int):List Int:=((aB l.length).filter fun x=>au.contains x).map fun x=>aL l x / (au.count x:Int)
def cT (l au:List Int)(τ:Int):Int:=xi (τ::kT l au)
def dq (l au:List Int)(len:Int):List Int:=(aB l.length).map fun x=>aL l x-len*(au.count x:Int)
def mq (fo:List (List Int))(l:List Int)(τ:Int):dY:=⟨cT l (bz fo l) τ,bz fo l,(dc (dq l (bz fo l) (cT l (bz fo l) τ))).filter fun x=>(bz fo l).contains x⟩
def gi:Nat->List (List Int)->List Int->Int->List dY
 |0,_,_,_=>[]
 |n+1,fo,l,τ => if τ=0 then [] else mq fo l τ::gi n fo (dq l (bz fo l) (cT l (bz fo l) τ)) (τ - cT l (bz fo l) τ)
theorem As (n:Nat)(fo:List (List Int))(l:List Int):gi n fo l 0=[]:=by cases n<;>simp [gi]
theorem zY {n:Nat}{fo:List (List Int)}{l:List Int}{τ:Int}(h : τ ≠ 0):gi (n+1) fo l τ=mq fo l τ::gi n fo (dq l (bz fo l) (cT l (bz fo l) τ)) (τ - cT l (bz fo l) τ):=by rw [gi,if_neg h]
theorem VH (g:Int->Int){m:Nat}{x:Int}(h0 : 0<=x)(h1:x<m):aL ((aB m).map g) x=g x:=by
 unfold aL aB
 rw [List.map_map,List.getD_eq_getElem?_getD,List.getElem?_map,List.getElem?_range (by omega)]
 show g (0+((x.toNat:Nat):Int))=g x
 congr 1;omega
theorem Bt (l au:List Int)(len:Int):(dq l au len).length=l.length:=by unfold dq;rw [List.length_map,gI]
theorem Lk {l:List Int}{x:Int}(h0 : 0<=x)(h1:x<l.length):aL l x ∈ l:=by
 unfold aL
 rw [List.getD_eq_getElem?_getD,List.getElem?_eq_getElem (show x.toNat<l.length by omega)]
 exact List.getElem_mem _
def qX (l:List Int):Nat:=((aB l.length).filter fun x=>decide (aL l x ≠ 0)).length
structure mE (m:Nat) (fo:List (List Int)):Prop where
 o6:fo.length<=6
 none:∀ o ∈ fo,(m:Int) ∈ o
 cB:∀ o ∈ fo,∀ x ∈ o,0<=x/\x<=m
 nd:∀ o ∈ fo,o.Nodup
 len:∀ o ∈ fo,o.length<=100
structure lE (n m:Nat) (l:List Int) (τ:Int):Prop where
 len:l.length=m
 m6:m<=6
 lb:∀ x ∈ l,0<=x/\x<=9*WM/\((60 ^ n:Nat):Int) ∣ x
 t0 : 0<=τ
 t1 : τ<=WM
 td:((60 ^ n:Nat):Int) ∣ τ
 nz : τ ≠ 0->qX l<n
theorem Jv {l:List Int}{x:Int}:x ∈ dc l ↔ (0<=x/\x<l.length)/\aL l x=0:=by
 unfold dc
 rw [List.mem_filter,gg,decide_eq_true_iff]
theorem Jw {m:Nat}{o:List Int}{l:List Int}(hl:l.length=m)(ho:(m:Int) ∈ o):∃ x r,fQ o (dc l)=x::r/\x ∈ o/\x ∉ dc l:=by
 have hm:(m:Int) ∈ fQ o (dc l):=by
  unfold fQ
  refine List.mem_filter.mpr ⟨ho,?_⟩
  have:(m:Int) ∉ dc l:=fun z=>by have:=(Jv.mp z).1;omega
  simpa using this
 cases h:fQ o (dc l) with
 |nil=>rw [h] at hm;cases hm
 |cons x r =>
  have hx:x ∈ fQ o (dc l):=by rw [h];exact .head _
  unfold fQ at hx
  obtain ⟨h1,h2⟩:=List.mem_filter.mp hx
  exact ⟨x,r,rfl,h1,by simpa using h2⟩
theorem YR {m:Nat}{fo:List (List Int)}{l:List Int}(F:mE m fo)(hl:l.length=m){x:Int}(hx:x ∈ bz fo l) : 0<=x/\x<=m/\x ∉ dc l:=by
 unfold bz at hx
 obtain ⟨o,ho,rfl⟩:=List.mem_map.mp hx
 obtain ⟨y,r,e,h1,h2⟩:=Jw hl (F.none o ho)
 rw [e]
 have:=F.cB o ho y h1
 exact ⟨this.1,this.2,h2⟩
theorem Bu (fo:List (List Int))(l:List Int):(bz fo l).length=fo.length:=by unfold bz;rw [List.length_map]
theorem vQ {l au:List Int}{q:Int}(h:q ∈ kT l au):∃ x:Int,0<=x/\x<l.length/\x ∈ au/\q=aL l x / (au.count x:Int):=by
 unfold kT at h
 obtain ⟨x,hx,rfl⟩:=List.mem_map.mp h
 obtain ⟨h1,h2⟩:=List.mem_filter.mp hx
 have:=gg.mp h1
 exact ⟨x,this.1,this.2,by simpa using h2,rfl⟩
theorem YS {l au:List Int}{x:Int}(h0 : 0<=x)(h1:x<l.length)(h2:x ∈ au):aL l x / (au.count x:Int) ∈ kT l au :=
 List.mem_map.mpr ⟨x,List.mem_filter.mpr ⟨gg.mpr ⟨h0,h1⟩,by simpa using h2⟩,rfl⟩
theorem NC {c:Nat}(h1 : 1<=c)(h6:c<=6):(c:Int) ∣ 60:=by
 have:c=1\/c=2\/c=3\/c=4\/c=5\/c=6:=by omega
 rcases this with rfl | rfl | rfl | rfl | rfl | rfl<;>decide
theorem YT {n:Nat}{v:Int}{c:Nat}(h1 : 1<=c)(h6:c<=6)(hd:((60 ^ (n+1):Nat):Int) ∣ v):(c:Int) ∣ v/\((60 ^ n:Nat):Int) ∣ v / c/\v / c*c=v:=by
 obtain ⟨k,rfl⟩:=hd
 obtain ⟨e,he⟩:=NC h1 h6
 have e1:((60 ^ (n+1):Nat):Int)*k=(c:Int)*(((60 ^ n:Nat):Int)*(e*k)):=by
  rw [Nat.pow_succ,Int.natCast_mul,show ((60:Nat):Int)=c*e from he,Int.mul_assoc,Int.mul_assoc,Int.mul_left_comm]
 have hc:(c:Int) ≠ 0:=by omega
 rw [e1,Int.mul_ediv_cancel_left _ hc]
 exact ⟨Int.dvd_mul_right _ _,Int.dvd_mul_right _ _,Int.mul_comm _ _⟩
structure YV (n m:Nat) (l au:List Int) (len τ:Int):Prop where
 pos : 0<len
 le:len<=τ
 part:((60 ^ n:Nat):Int) ∣ len
 has:∀ x:Int,0<=x->x<m->len*(au.count x:Int)<=aL l x
 next:lE n m (dq l au len) (τ - len)
theorem Bv {n m:Nat}{fo:List (List Int)}{l:List Int}{τ:Int}(F:mE m fo)(S:lE (n+1) m l τ)(ht : τ ≠ 0):YV n m l (bz fo l) (cT l (bz fo l) τ) τ:=by
 have hl:=S.len
 have qH:=Bu fo l
 have EV:∀ x ∈ bz fo l,0<=x/\x<=m/\x ∉ dc l:=fun x hx=>YR F hl hx
 generalize bz fo l=au at qH EV
 have o6:=F.o6
 have cnt:∀ x ∈ au,1<=au.count x/\au.count x<=6:=fun x hx=>⟨List.count_pos_iff.mpr hx,Nat.le_trans List.count_le_length (by omega)⟩
 have lb:∀ x:Int,0<=x->x<m->0<=aL l x/\aL l x<=9*WM/\((60 ^ (n+1):Nat):Int) ∣ aL l x:=fun x h0 h1=>S.lb _ (Lk h0 (by omega))
 have Oq:∀ x ∈ au,x<m->0<aL l x:=fun x hx h1=>by
  obtain ⟨h0,_,h2⟩:=EV x hx
  have a:=(lb x h0 h1).1
  rcases Int.lt_or_eq_of_le a with z | z
  ·exact z
  ·exact absurd (Jv.mpr ⟨⟨h0,by omega⟩,z.symm⟩) h2
 have yg:∀ x ∈ au,x<m->0<aL l x / (au.count x:Int)/\((60 ^ n:Nat):Int) ∣ aL l x / (au.count x:Int)/\aL l x / (au.count x:Int)*(au.count x:Int)=aL l x:=fun x hx h1=>by
  obtain ⟨h0,_,_⟩:=EV x hx
  obtain ⟨c1,c6⟩:=cnt x hx
  obtain ⟨_,a,b⟩:=YT c1 c6 (lb x h0 h1).2.2
  have p:=Oq x hx h1
  refine ⟨?_,a,b⟩
  rcases Int.lt_or_le 0 (aL l x / (au.count x:Int)) with z | z
  ·exact z
  ·have:aL l x / (au.count x:Int)*(au.count x:Int)<=0:=Int.mul_nonpos_of_nonpos_of_nonneg z (by omega)
   omega
 have DK:((60 ^ n:Nat):Int) ∣ ((60 ^ (n+1):Nat):Int):=⟨60,by rw [Nat.pow_succ,Int.natCast_mul];rfl⟩
 have xj:cT l au τ ∈ τ::kT l au:=VG (by simp)
 have EW:∀ x,x ∈ τ::kT l au->cT l au τ<=x:=fun x hx=>Xu hx
 generalize cT l au τ=len at xj EW
 have h1 : 0<len:=by
  rcases List.mem_cons.mp xj with z | z
  ·have:=S.t0;omega
  ·obtain ⟨x,h0,h1,h2,rfl⟩:=vQ z
   exact (yg x h2 (by omega)).1
 have h2:len<=τ:=EW τ (.head _)
 have h3:((60 ^ n:Nat):Int) ∣ len:=by
  rcases List.mem_cons.mp xj with z | z
  ·rw [z];exact Int.dvd_trans DK S.td
  ·obtain ⟨x,a0,a1,a2,e⟩:=vQ z
   rw [e]
   exact (yg x a2 (by omega)).2.1
 have h4:∀ x:Int,0<=x->x<m->len*(au.count x:Int)<=aL l x:=fun x a b=>by
  by_cases hx:x ∈ au
  ·have q:=EW _ (.tail _ (YS a (by omega) hx))
   have e:=(yg x hx b).2.2
   rw [<- e]
   exact Int.mul_le_mul_of_nonneg_right q (by omega)
  ·rw [List.count_eq_zero.mpr hx]
   have:=(lb x a b).1
   show len*(0:Int)<=_
   omega
 refine ⟨h1,h2,h3,h4,?_⟩
 have Ot:∀ x:Int,0<=x->x<m->aL (dq l au len) x=aL l x-len*(au.count x:Int):=fun x a b=>by
  unfold dq
  exact VH _ a (by omega)
 have ae6 : 0<WM:=by decide
 refine ⟨by rw [Bt,hl],S.m6,fun y hy=>?_,by omega,by have:=S.t1;omega,Int.dvd_sub (Int.dvd_trans DK S.td) h3,fun hn=>?_⟩
 ·unfold dq at hy
  obtain ⟨x,hx,rfl⟩:=List.mem_map.mp hy
  obtain ⟨a,b⟩:=gg.mp hx
  have a4:=h4 x a (by omega)
  obtain ⟨b1,b2,b3⟩:=lb x a (by omega)
  have : 0<=len*(au.count x:Int):=Int.mul_nonneg (by omega) (by omega)
  exact ⟨by omega,by omega,Int.dvd_sub (Int.dvd_trans DK b3) (Int.dvd_mul_of_dvd_left h3)⟩
 ·have hq:len ∈ kT l au:=by
   rcases List.mem_cons.mp xj with z | z
   ·omega
   ·exact z
  obtain ⟨x,a,b,hx,e⟩:=vQ hq
  have zero:aL (dq l au len) x=0:=by
   rw [Ot x a (by omega),e,(yg x hx (by omega)).2.2];omega
  have pos:=Oq x hx (by omega)
  have key:qX (dq l au len)<qX l:=by
   unfold qX
   rw [Bt]
   have e1:((aB l.length).filter fun x=>decide (aL (dq l au len) x ≠ 0))=((aB l.length).filter fun x=>decide (aL l x ≠ 0)).filter fun x=>decide (aL (dq l au len) x ≠ 0):=by
    rw [List.filter_filter]
    refine List.filter_congr fun y hy=>?_
    obtain ⟨a',b'⟩:=gg.mp hy
    rw [Bool.eq_iff_iff,Bool.and_eq_true,decide_eq_true_iff,decide_eq_true_iff]
    refine ⟨fun z=>⟨z,fun w=>z ?_⟩,fun z=>z.1⟩
    rw [Ot y a' (by omega)]
    have:=h4 y a' (by omega)
    have : 0<=len*(au.count y:Int):=Int.mul_nonneg (by omega) (by omega)
    omega
   rw [e1]
   refine List.length_filter_lt_length_iff_exists.mpr ⟨x,List.mem_filter.mpr ⟨gg.mpr ⟨a,b⟩,decide_eq_true (by omega)⟩,?_⟩
   rw [zero];decide
  have:=S.nz ht
  omega
theorem Ka {m:Nat}{fo:List (List Int)}(F:mE m fo):∀ (n:Nat) (l:List Int) (τ:Int),lE n m l τ->∀ s ∈ gi n fo l τ,∃ l',l'.length=m/\s.au=bz fo l'/\0<s.len/\s.len<=WM
 |0,l,τ,_,s,hs=>by cases hs
 |n+1,l,τ,S,s,hs=>by
  by_cases ht : τ=0
  ·rw [ht,As] at hs;cases hs
  ·rw [zY ht] at hs
   have ok:=Bv F S ht
   rcases List.mem_cons.mp hs with rfl | hs
   ·exact ⟨l,S.len,rfl,ok.pos,Int.le_trans ok.le S.t1⟩
   ·exact Ka F n _ _ ok.next s hs
theorem Kb {m:Nat}{fo:List (List Int)}(F:mE m fo):∀ (n:Nat) (l:List Int) (τ:Int),lE n m l τ->((gi n fo l τ).map dY.len).sum=τ
 |0,l,τ,S=>by
  by_cases ht : τ=0
  ·rw [ht];rfl
  ·exact absurd (S.nz ht) (Nat.not_lt_zero _)
 |n+1,l,τ,S=>by
  by_cases ht : τ=0
  ·rw [ht,As];rfl
  ·rw [zY ht,List.map_cons,List.sum_cons,Kb F n _ _ (Bv F S ht).next]
   show cT l (bz fo l) τ+_=_
   omega
theorem Kc:∀ (n:Nat) (fo:List (List Int)) (l:List Int) (τ:Int),(gi n fo l τ).length<=n
 |0,_,_,_=>Nat.le_refl _
 |n+1,fo,l,τ => by
  rw [gi]
  split
  ·exact Nat.zero_le _
  ·rw [List.length_cons];have:=Kc n fo (dq l (bz fo l) (cT l (bz fo l) τ)) (τ - cT l (bz fo l) τ);omega
theorem YW (l:List Int):qX l<=l.length:=by
 unfold qX
 exact Nat.le_trans (List.length_filter_le _ _) (by rw [gI];exact Nat.le_refl _)
def fu (c:List Int)(os:List (List Int)):List dY:=gi 7 (os.map (bb c.length)) (c.map (·*WM)) WM
theorem A0 {c:List Int}(h6:c.length<=6)(hc:∀ x ∈ c,0<=x/\x<=9):lE 7 c.length (c.map (·*WM)) WM:=by
 have hw:WM=((60 ^ 7:Nat):Int):=by decide
 refine ⟨by rw [List.length_map],h6,fun x hx=>?_,by decide,Int.le_refl _,by rw [<- hw];exact Int.dvd_refl _,fun _=>?_⟩
 ·obtain ⟨y,hy,rfl⟩:=List.mem_map.mp hx
  obtain ⟨a,b⟩:=hc y hy
  refine ⟨Int.mul_nonneg a (by decide),Int.mul_le_mul_of_nonneg_right b (by decide),by rw [<- hw];exact Int.dvd_mul_left _ _⟩
 ·have:=YW (c.map (·*WM))
  rw [List.length_map] at this
  omega
end
section
variable {P:Program}{w:World}{K:PySem.W.Frag}{mg:Str->Option Value}{base:Heap}
theorem eM : 0<WM:=by decide
theorem lF:WM<2 ^ 70:=by decide
theorem Xv {α:Type}(l:List Int)(f:Int->α):l.map f=(aB l.length).map fun x=>f (aL l x):=by
 unfold aB
 rw [List.map_map,<- u5 l 0 f]
 refine List.map_congr_left fun j hj=>?_
 show f ((l[j]?).getD 0)=f (aL l (0+(j:Int)))
 unfold aL
 rw [Int.zero_add,Int.toNat_natCast,List.getD_eq_getElem?_getD]
theorem YX {α β:Type}(l:List α)(d : α)(f : α->β):l.map f=(aB l.length).map fun x=>f (l.getD x.toNat d):=by
 unfold aB
 rw [List.map_map,<- u5 l d f]
 refine List.map_congr_left fun j hj=>?_
 show f ((l[j]?).getD d)=f (l.getD (0+(j:Int)).toNat d)
 rw [Int.zero_add,Int.toNat_natCast,List.getD_eq_getElem?_getD]
theorem ND (l:List Int)(f:Int->Dv):kP (l.map f)=(aB l.length).map fun x=>.tup [di x,f (aL l x)]:=by
 rw [Xv l f]
 unfold kP aB
 rw [List.map_map,List.length_map,List.length_range,List.zipWith_map_right,List.zipWith_self,List.map_map]
 refine List.map_congr_left fun j _=>?_
 show Dv.tup [di (j:Int),f (aL l (0+(j:Int)))]=Dv.tup [di (0+(j:Int)),f (aL l (0+(j:Int)))]
 rw [Int.zero_add]
theorem YY (p q:Int×Int):cN (dF p) (dF q)=decide (p=q):=by
 show (p.1==q.1&&(p.2==q.2&&true))=_
 rw [Bool.and_true,Bool.eq_iff_iff,Bool.and_eq_true,beq_iff_eq,beq_iff_eq,decide_eq_true_iff]
 exact ⟨fun h=>Prod.ext h.1 h.2,fun h=>by rw [h];exact ⟨rfl,rfl⟩⟩
theorem Ke {W s:Int}(h : 0<W):cN (dF (fW W s)) (dF (lT 0 1,lB 0 1))=decide (s=0):=by
 rw [YY,nF,<- KQ h,decide_eq_decide]
 exact ⟨fun e=>Yp h e,fun e=>by rw [e]⟩
theorem Qp (p:Int×Int):dI (er (tF p))<=50:=Nat.le_trans (MA p) (by decide)
structure qY (l:List Int):Prop where
 len:l.length<=6
 b:∀ x ∈ l,0<=x/\x<=9*WM/\(60:Int) ∣ x
theorem qY.at {l:List Int}(h:qY l){x:Int}(h0 : 0<=x)(h1:x<l.length) : 0<=aL l x/\aL l x<=9*WM/\(60:Int) ∣ aL l x:=h.b _ (Lk h0 h1)
abbrev oM:Stmt:=top 34
theorem Ii:bj ["left", "eaten", "time_left", "things"] ["left", "eaten", "time_left"] (ah oM):=⟨rfl,rfl,rfl,by decide +kernel,rfl,by decide +kernel,by decide +kernel⟩
def Kf (dd:List Dv)(t:Tr):Prop:=∃ (l au:List Int) (τ:Int),qY l/\au.length<=6/\0<=τ/\τ<=WM/\dd=[fj WM l,dis au,dF (fW WM τ)]/\t=tF (fW WM (cT l au τ))
theorem RT {f f1 f2 f3:Addr}{fd aE fd2 fJ:FuncData}{k:Nat}{tk:Tok}(F:bg K "next_length" "next_length" oM f fd)(T:Txt mg)(cO:Kn P w K mg base ao (k+2) "fraction" f1 aE ["top", "bottom"] (spT K gN))(B1:Binds K aE ["top", "bottom"] [.int 1 tk])(YZ:Kn P w K mg base ao (k+3) "over" f2 fd2 ["one", "other"] (spT K Nz))(TJ:Kn P w K mg base ao (k+2) "least_of" f3 fJ ["some"] (spT K J9)):aM P w K mg base ao (k+4) f fd ["left", "eaten", "time_left"] (spT K Kf):=by
 refine bD F.d Ii (fun dd t h=>by obtain ⟨_,_,_,_,_,_,_,rfl,_⟩:=h;rfl) fun dd t h=>?_
 obtain ⟨l,au,τ,gZ,e6,t0,t1,rfl,rfl⟩:=h
 refine ⟨_,.inl rfl,?_⟩
 have big : 1000<sizeLine:=by decide
 have w0:=eM
 have l6:=gZ.len
 have qH:(((l.map fun s=>dF (fW WM s)).length:Nat):Int)=l.length:=by rw [List.length_map]
 have uK:iz 0 (((l.map fun s=>dF (fW WM s)).length:Nat):Int).toNat=(aB l.length).map di:=by
  rw [qH,Int.toNat_natCast]
  unfold aB
  rw [List.map_map];rfl
 refine aw (lW 3 (qB (fh.as (d:=dis ((aB l.length).filter fun x=>au.contains x)) (Oa (own:=["thing"]) (fr:=[1]) (aB l.length) di (fun x=>au.contains x) ti (bJ.to (iS T.fM (cu T.cg (ae 0 rfl) (.inl rfl)) (by rw [qH];omega)) uK) (cm 0 (fun _=>by show List.Nodup (["thing", "eaten"]:List Str);decide)) (by decide) (by rw [gI];omega) (fun x hx=>⟨_,rfl,by exact j6 (M6 (ae 0 rfl) (ae 1 rfl) rfl (by with_unfolding_all rfl)),fun _=>by exact ae 0 rfl⟩) (fun dd=>by cases dd<;>rfl)) (gf _))) (fun i=>lcs ⟨rfl,rfl,by decide +kernel,by decide +kernel,by decide +kernel,by decide +kernel⟩) (fun _=>Ii.nd)) ?_
 have uH:∀ x ∈ (aB l.length).filter (fun x=>au.contains x),0<=x/\x<l.length/\1<=au.count x/\au.count x<=6:=fun x hx=>by
  obtain ⟨h1,h2⟩:=List.mem_filter.mp hx
  have:=gg.mp h1
  exact ⟨this.1,this.2,List.count_pos_iff.mpr (by simpa using h2),Nat.le_trans List.count_le_length e6⟩
 have hlen:((aB l.length).filter (fun x=>au.contains x)).length<=6:=Nat.le_trans (List.length_filter_le _ _) (by rw [gI];exact l6)
 have eq:kT l au=((aB l.length).filter fun x=>au.contains x).map fun x=>aL l x / (au.count x:Int):=rfl
 have hq:∀ s ∈ τ::kT l au,0<=s/\s<=100*WM:=fun s hs=>by
  rcases List.mem_cons.mp hs with rfl | hs
  ·omega
  ·obtain ⟨x,a0,a1,_,rfl⟩:=vQ hs
   have:=gZ.at a0 a1
   have d1:=Int.ediv_nonneg this.1 (show (0:Int)<=(au.count x:Int) by omega)
   have d2:=Int.ediv_le_self (au.count x:Int) this.1
   omega
 unfold cT
 rw [eq] at hq ⊢
 generalize (aB l.length).filter (fun x=>au.contains x)=th at uH hlen hq
 show bC _ _ [some (.fz (fj WM l)),some (.fz (dis au)),some (tF (fW WM τ)),some (.fz (dis th))] _
 refine aK (cf (Ev.s (aI TJ (by show k+2<=k+3;omega) (af (Ev.as (d:=fj WM (τ::th.map fun x=>aL l x / (au.count x:Int))) (vY (xs:=[dF (fW WM τ)]) (ys:=th.map fun x=>dF (fW WM (aL l x / (au.count x:Int)))) (df (af (ae 2 rfl) aq) (by show 1<=sizeLine;decide)) (jm (own:=["thing"]) (fr:=[0,1]) th di (fun x=>tF (fW WM (aL l x / (au.count x:Int)))) (fun i=>lcs ⟨rfl,rfl,by decide +kernel,by decide +kernel,by decide +kernel,by decide +kernel⟩) (dD (ae 3 rfl) rfl) (cm 0 (fun _=>by show List.Nodup (["thing", "left", "eaten"]:List Str);decide)) (by decide) (by omega) (fun x hx=>⟨_,rfl,by
   obtain ⟨x0,x1,c1,c6⟩:=uH x hx
   obtain ⟨l0,l9,Qq⟩:=gZ.at x0 x1
   have cR:(0:Int)<(au.count x:Int):=by omega
   exact Ev.to (aI YZ (Nat.le_refl _) (af (dz (ae 1 rfl) (ae 0 rfl) rfl (Cg (fun s=>dF (fW WM s)) x0 x1)) (af (Ev.to (lO cO B1 (by show k+2<=k+3;omega) (af (JI (ae 2 rfl) rfl (ae 0 rfl)) aq) ⟨(au.count x:Int),1,by decide,by decide,rfl,rfl⟩) (t':=tF ((au.count x:Int),1)) (by rw [nF])) aq)) ⟨fW WM (aL l x),((au.count x:Int),1),iZ eM lF l0 (by omega),MB (by omega) (by omega),cR,rfl,rfl⟩) (by rw [<- Xp eM cR (Int.dvd_trans (NC c1 c6) Qq)])⟩) (fun dd=>by cases dd<;>rfl)) rfl (fk _ _) (by rw [List.length_map];show 1+_<=_;omega)) (by rw [pS];show Dv.lst (dF (fW WM τ)::_)=Dv.lst (dF (fW WM τ)::_);rw [List.map_map];rfl)) aq) ⟨WM,_,eM,lF,by simp,hq,rfl,rfl⟩)))
abbrev oN:Stmt:=top 35
theorem RU:bj ["left", "eaten", "length"] ["left", "eaten", "length"] (ah oN):=⟨rfl,rfl,rfl,by decide +kernel,rfl,by decide +kernel,by decide +kernel⟩
def IE (dd:List Dv)(t:Tr):Prop:=∃ (l au:List Int) (len:Int),qY l/\au.length<=6/\0<=len/\len<=WM/\dd=[fj WM l,dis au,dF (fW WM len)]/\t=.ow ((dq l au len).map fun s=>tF (fW WM s))
theorem RV {f f1 f2 f3:Addr}{fd aE fd2 fJ:FuncData}{k:Nat}{tk:Tok}(F:bg K "left_behind" "left_behind" oN f fd)(T:Txt mg)(cO:Kn P w K mg base ao (k+2) "fraction" f1 aE ["top", "bottom"] (spT K gN))(B1:Binds K aE ["top", "bottom"] [.int 1 tk])(Bw:Kn P w K mg base ao (k+3) "minus" f2 fd2 ["one", "other"] (spT K Ci))(Xw:Kn P w K mg base ao (k+3) "times" f3 fJ ["one", "other"] (spT K MC)):aM P w K mg base ao (k+4) f fd ["left", "eaten", "length"] (spT K IE):=by
 refine bD F.d RU (fun dd t h=>by obtain ⟨_,_,_,_,_,_,_,rfl,_⟩:=h;rfl) fun dd t h=>?_
 obtain ⟨l,au,len,gZ,e6,t0,t1,rfl,rfl⟩:=h
 refine ⟨_,.inl rfl,?_⟩
 have big : 1000<sizeLine:=by decide
 have w0:=eM
 have l6:=gZ.len
 unfold dq
 rw [List.map_map]
 refine aK (cf (Ev.s (jm (own:=["thing", "some"]) (fr:=[2,1]) (aB l.length) (fun x=>.tup [di x,dF (fW WM (aL l x))]) (fun x=>tF (fW WM (aL l x-len*(au.count x:Int)))) (fun i=>lcs ⟨rfl,rfl,by decide +kernel,by decide +kernel,by decide +kernel,by decide +kernel⟩) (bJ.to (rW T.rD (ae 0 rfl) rfl) (ND l fun s=>dF (fW WM s))) (nq 0 1 (fun _=>by show List.Nodup (["thing", "some", "length", "eaten"]:List Str);decide)) (by decide) (by rw [gI];omega) (fun x hx=>⟨_,rfl,by
   obtain ⟨x0,x1⟩:=gg.mp hx
   obtain ⟨l0,l9,Qq⟩:=gZ.at x0 x1
   have c6:au.count x<=6:=Nat.le_trans List.count_le_length e6
   have c0 : 0<=len*(au.count x:Int):=Int.mul_nonneg t0 (by omega)
   have c9:len*(au.count x:Int)<=WM*6:=Int.mul_le_mul t1 (by omega) (by omega) (by omega)
   exact Ev.to (aI Bw (Nat.le_refl _) (af (ae 1 rfl) (af (Ev.to (aI Xw (Nat.le_refl _) (af (ae 2 rfl) (af (Ev.to (lO cO B1 (by show k+2<=k+3;omega) (af (JI (ae 3 rfl) rfl (ae 0 rfl)) aq) ⟨(au.count x:Int),1,by decide,by decide,rfl,rfl⟩) (t':=tF ((au.count x:Int),1)) (by rw [nF])) aq)) ⟨fW WM len,((au.count x:Int),1),iZ eM lF t0 (by omega),MB (by omega) (by omega),rfl,rfl⟩) (t':=tF (fW WM (len*(au.count x:Int)))) (by rw [<- Vz eM])) aq)) ⟨fW WM (aL l x),fW WM (len*(au.count x:Int)),iZ eM lF l0 (by omega),iZ eM lF c0 (by omega),rfl,rfl⟩) (by rw [J8 eM])⟩) (fun dd=>by rcases dd with _ | ⟨a,_ | ⟨b,dd⟩⟩<;>rfl))))
abbrev oI:Stmt:=top 36
theorem RJ:bj ["left"] ["left"] (ah oI):=⟨rfl,rfl,rfl,by decide +kernel,rfl,by decide +kernel,by decide +kernel⟩
def ME (dd:List Dv)(t:Tr):Prop:=∃ l:List Int,l.length<=6/\dd=[fj WM l]/\t=aR (dc l)
theorem RK {f f1:Addr}{fd aE:FuncData}{k:Nat}{tk:Tok}(F:bg K "ended_things" "ended_things" oI f fd)(T:Txt mg)(cO:Kn P w K mg base ao (k+2) "fraction" f1 aE ["top", "bottom"] (spT K gN))(B1:Binds K aE ["top", "bottom"] [.int 1 tk]):aM P w K mg base ao (k+3) f fd ["left"] (spT K ME):=by
 refine bD F.d RJ (fun dd t h=>by obtain ⟨_,_,rfl,_⟩:=h;rfl) fun dd t h=>?_
 obtain ⟨l,l6,rfl,rfl⟩:=h
 refine ⟨_,.inl rfl,?_⟩
 have big : 1000<sizeLine:=by decide
 refine aK (cf (Ev.s (pT (own:=["thing", "some"]) (fr:=[]) (aB l.length) (fun x=>.tup [di x,dF (fW WM (aL l x))]) (fun x=>decide (aL l x=0)) ti (fun i=>lcs ⟨rfl,rfl,by decide +kernel,by decide +kernel,by decide +kernel,by decide +kernel⟩) (bJ.to (rW T.rD (ae 0 rfl) rfl) (ND l fun s=>dF (fW WM s))) (nq 0 1 (fun _=>by show List.Nodup (["thing", "some"]:List Str);decide)) (by decide) (by rw [gI];omega) (fun x hx=>⟨_,rfl,by
   exact j6 (Et.to (BP (tb':=tF (lT 0 1,lB 0 1)) (ae 1 rfl) (lO cO B1 (Nat.le_refl _) (af ak aq) ⟨0,1,by decide,by decide,rfl,rfl⟩) (.inr ⟨_,_,rfl,rfl⟩) (Qp _)) (Ke eM)),fun _=>by exact ae 0 rfl⟩) (fun dd=>by rcases dd with _ | ⟨a,_ | ⟨b,dd⟩⟩<;>rfl))))
def qk (s:dY):Dv:=.tup [dF (fW WM s.len),dis s.au,dis s.fin]
abbrev Cm (st:List dY):Dv:=.lst (st.map qk)
abbrev oW:Stmt:=top 37
theorem jP:bj ["table", "orders", "left", "time_left", "steps", "gone", "eaten", "length"] ["table"] (ah oW):=⟨rfl,rfl,rfl,by decide +kernel,rfl,by decide +kernel,by decide +kernel⟩
def MF (dd:List Dv)(t:Tr):Prop:=∃ (c:List Int) (os:List (List Int)),bS c os/\mE c.length (os.map (bb c.length))/\dd=[aW c os]/\t=.ow ((fu c os).map fun s=>.fz (qk s))
theorem lE.gZ {n m:Nat}{l:List Int}{τ:Int}(S:lE (n+1) m l τ):qY l:=by
 refine ⟨by rw [S.len];exact S.m6,fun x hx=>?_⟩
 obtain ⟨a,b,c⟩:=S.lb x hx
 refine ⟨a,b,Int.dvd_trans ?_ c⟩
 exact ⟨((60 ^ n:Nat):Int),by rw [Nat.pow_succ,Int.natCast_mul,Int.mul_comm];rfl⟩
theorem Si {f f1 f2 f3 f4 f5 f6 f7:Addr}{fd aE fd2 fJ uM qZ fd6 fd7:FuncData}{k:Nat}{tk:Tok}(F:bg K "meal_steps" "meal_steps" oW f fd)(T:Txt mg)(cO:Kn P w K mg base ao (k+2) "fraction" f1 aE ["top", "bottom"] (spT K gN))(B1:Binds K aE ["top", "bottom"] [.int 1 tk])(Bw:Kn P w K mg base ao (k+3) "minus" f2 fd2 ["one", "other"] (spT K Ci))(rB:Kn P w K mg base ao (k+1) "full_order" f3 fJ ["table", "asker"] (spT K wJ))(zG:Kn P w K mg base ao (k+1) "first_left" f4 uM ["order", "gone"] (spT K B8))(Sj:Kn P w K mg base ao (k+4) "next_length" f5 qZ ["left", "eaten", "time_left"] (spT K Kf))(Sl:Kn P w K mg base ao (k+4) "left_behind" f6 fd6 ["left", "eaten", "length"] (spT K IE))(Ij:Kn P w K mg base ao (k+3) "ended_things" f7 fd7 ["left"] (spT K ME)):aM P w K mg base ao (k+5) f fd ["table"] (spT K MF):=by
 refine bD F.d jP (fun dd t h=>by obtain ⟨_,_,_,_,rfl,_⟩:=h;rfl) fun dd t h=>?_
 obtain ⟨c,os,tab,gF,rfl,rfl⟩:=h
 refine ⟨_,.inl rfl,?_⟩
 have big : 1000<sizeLine:=by decide
 have c6:=tab.c6
 have o6:=tab.o6
 have iB:(((os.map dis).length:Nat):Int)=os.length:=by rw [List.length_map]
 have uK:iz 0 (((os.map dis).length:Nat):Int).toNat=(aB os.length).map di:=by
  rw [iB,Int.toNat_natCast]
  unfold aB
  rw [List.map_map];rfl
 have eO:er (.ow ((aB os.length).map fun x=>aR (bb c.length (os.getD x.toNat []))))=.lst ((os.map (bb c.length)).map dis):=by
  rw [fk]
  show Dv.lst _=Dv.lst (List.map _ (List.map _ _))
  rw [List.map_map,YX os [] (dis ∘ bb c.length)]
  congr 1
  exact List.map_congr_left fun x _=>gf _
 refine aw (lW 1 (qB (fh.as (tO (own:=["asker"]) (fr:=[0]) (aB os.length) di (fun x=>aR (bb c.length (os.getD x.toNat []))) (bJ.to (iS T.fM (cu T.cg (aV (d:=.lst (os.map dis)) (ae 0 rfl) ak rfl rfl) (.inl rfl)) (by rw [iB];omega)) uK) (cm 0 (fun _=>by show List.Nodup (["asker", "table"]:List Str);decide)) (by decide) (by rw [gI];omega) (fun x hx=>⟨_,rfl,by
   obtain ⟨x0,x1⟩:=gg.mp hx
   have hx:os[x.toNat]?=some (os.getD x.toNat []):=by rw [List.getD_eq_getElem?_getD,List.getElem?_eq_getElem (show x.toNat<os.length by omega)];rfl
   have hm:=List.mem_of_getElem? hx
   have hl:=Ah (tab.nd _ hm) (tab.cB _ hm)
   have oq:bq os x=some (os.getD x.toNat []):=by
    have:=Vh (k:=x.toNat) hx
    rwa [show ((x.toNat:Nat):Int)=x by omega] at this
   exact aI rB (by show k+1<=k+4;omega) (af (ae 1 rfl) (af (ae 0 rfl) aq)) ⟨c,os,x,os.getD x.toNat [],by omega,by omega,oq,rfl,rfl⟩⟩) (fun dd=>by cases dd<;>rfl)) eO)) (fun i=>lcs ⟨rfl,rfl,by decide +kernel,by decide +kernel,by decide +kernel,by decide +kernel⟩) (fun _=>jP.nd)) ?_
 have eL:er (.ow (c.map fun x=>tF (fW WM (x*WM))))=fj WM (c.map (·*WM)):=by
  rw [fk]
  show Dv.lst _=Dv.lst (List.map _ (List.map _ _))
  rw [List.map_map];rfl
 refine aw (lW 2 (qB (fh.as (tO (own:=["count"]) (fr:=[]) c di (fun x=>tF (fW WM (x*WM))) (dD (aV (d:=dis c) (ae 0 rfl) ak rfl rfl) rfl) (cm 0 (fun _=>by show List.Nodup (["count"]:List Str);decide)) (by decide) (by omega) (fun x hx=>⟨_,rfl,by
   exact Ev.to (lO cO B1 (by show k+2<=k+4;omega) (af (ae 0 rfl) aq) ⟨x,1,by decide,by decide,rfl,rfl⟩) (by rw [nF,YQ eM])⟩) (fun dd=>by cases dd<;>rfl)) eL)) (fun i=>lcs ⟨rfl,rfl,by decide +kernel,by decide +kernel,by decide +kernel,by decide +kernel⟩) (fun _=>jP.nd)) ?_
 refine aw (aQ 3 (ck.to (t':=tF (fW WM WM)) (Ev.s (lO cO B1 (by show k+2<=k+4;omega) (af ak aq) ⟨1,1,by decide,by decide,rfl,rfl⟩)) (by rw [nF,Wm eM])) (fun _=>jP.nd)) ?_
 refine aw (aQ 4 (Ev.s (df aq (Nat.zero_le _))) (fun _=>jP.nd)) ?_
 have Qr:=A0 tab.c6 tab.cnt
 have e0:fu c os=gi 7 (os.map (bb c.length)) (c.map (·*WM)) WM:=rfl
 generalize fu c os=res at e0
 generalize c.map (·*WM)=l0 at Qr e0
 generalize os.map (bb c.length)=fo at gF e0
 refine Io (fun p:(List dY×List Int)×(Int×Nat)=>[some (.fz (aW c os)),some (.fz (.lst (fo.map dis))),some (.fz (fj WM p.1.2)),some (tF (fW WM p.2.1)),some (.ow (p.1.1.map fun s=>.fz (qk s))),none,none,none]) (fun p=>lE p.2.2 c.length p.1.2 p.2.1/\p.1.1++gi p.2.2 fo p.1.2 p.2.1=res/\p.1.1.length<=7-p.2.2/\p.2.2<=7) (fun p=>!decide (p.2.1=0)) (fun p=>p.2.2) (([],l0),(WM,7)) rfl ⟨Qr,e0.symm,by show 0<=_;omega,Nat.le_refl _⟩ (fun p hp=>?_) (fun p hp h=>?_) (fun p hp h=>?_)
 ·refine Et.s (Et.to (pR (tb':=tF (lT 0 1,lB 0 1)) (ae 3 rfl) (lO cO B1 (by show k+2<=k+4;omega) (af ak aq) ⟨0,1,by decide,by decide,rfl,rfl⟩) (.inr ⟨_,_,rfl,rfl⟩) (Qp _)) ?_)
  show (!cN (dF (fW WM p.2.1)) (dF (lT 0 1,lB 0 1)))=_
  rw [Ke eM]
 ·obtain ⟨⟨acc,l⟩,⟨τ,n⟩⟩:=p
  obtain ⟨h1,h2,h3,h4⟩:=hp
  have ht : τ ≠ 0:=by simpa using h
  replace h1:lE n c.length l τ:=h1
  replace h2:acc++gi n fo l τ=res:=h2
  replace h3:acc.length<=7-n:=h3
  replace h4:n<=7:=h4
  obtain ⟨n,rfl⟩:∃ m,n=m+1:=⟨n-1,by have:=h1.nz ht;omega⟩
  have jM:=Bv gF h1 ht
  have gZ:=h1.gZ
  have xk:=h1.len
  rw [zY ht] at h2
  have ZJ:mq fo l τ=⟨cT l (bz fo l) τ,bz fo l,(dc (dq l (bz fo l) (cT l (bz fo l) τ))).filter fun x=>(bz fo l).contains x⟩:=rfl
  have qH:=Bu fo l
  have fo6:=gF.o6
  refine ⟨((acc++[mq fo l τ],dq l (bz fo l) (cT l (bz fo l) τ)),(τ - cT l (bz fo l) τ,n)),⟨jM.next,by show (acc++[mq fo l τ])++_=_;rw [List.append_assoc];exact h2,by show (acc++[mq fo l τ]).length<=7-n;rw [List.length_append,List.length_singleton];omega,by show n<=7;omega⟩,Nat.lt_succ_self n,?_⟩
  have aam:er (.ow (fo.map fun o=>ti ((fQ o (dc l)).headD 0)))=dis (bz fo l):=by
   rw [fk]
   unfold bz
   show Dv.lst _=Dv.lst (List.map _ (List.map _ _))
   rw [List.map_map];rfl
  refine bC.fg (ρ1:=[some (.fz (aW c os)),some (.fz (.lst (fo.map dis))),some (.fz (fj WM (dq l (bz fo l) (cT l (bz fo l) τ)))),some (tF (fW WM (τ - cT l (bz fo l) τ))),some (.ow ((acc++[mq fo l τ]).map fun s=>.fz (qk s))),some (.fz (dis (dc l))),some (.fz (dis (bz fo l))),some (tF (fW WM (cT l (bz fo l) τ)))]) ?_ ⟨[5,6,7],rfl⟩
  refine aw (aQ 5 (Ev.s (Ev.as (aI Ij (by show k+3<=k+4;omega) (af (ae 2 rfl) aq) ⟨l,gZ.len,rfl,rfl⟩) (gf _))) (fun _=>jP.nd)) ?_
  refine aw (aQ 6 (Ev.s (Ev.as (jm (own:=["order"]) (fr:=[5]) fo dis (fun o=>ti ((fQ o (dc l)).headD 0)) (fun i=>lcs ⟨rfl,rfl,by decide +kernel,by decide +kernel,by decide +kernel,by decide +kernel⟩) (dD (ae 1 rfl) rfl) (cm 0 (fun _=>by show List.Nodup (["order", "gone"]:List Str);decide)) (by decide) (by omega) (fun o ho=>⟨_,rfl,by
    obtain ⟨x,r,e,_,_⟩:=Jw xk (gF.none o ho)
    exact Ev.to (aI zG (by show k+1<=k+4;omega) (af (ae 0 rfl) (af (ae 1 rfl) aq)) ⟨o,dc l,x,r,gF.len o ho,e,rfl,rfl⟩) (by rw [e];rfl)⟩) (fun dd=>by cases dd<;>rfl)) aam)) (fun _=>jP.nd)) ?_
  have eS:acc++[mq fo l τ]=acc++[⟨cT l (bz fo l) τ,bz fo l,(dc (dq l (bz fo l) (cT l (bz fo l) τ))).filter fun x=>(bz fo l).contains x⟩]:=by rw [ZJ]
  rw [eS]
  generalize bz fo l=au at jM qH
  have ae7:qY l:=gZ
  refine aw (aQ 7 (Ev.s (aI Sj (Nat.le_refl _) (af (ae 2 rfl) (af (ae 6 rfl) (af (ae 3 rfl) aq))) ⟨l,au,τ,gZ,by omega,h1.t0,h1.t1,rfl,rfl⟩)) (fun _=>jP.nd)) ?_
  generalize cT l au τ=len at jM
  have l0:=jM.pos
  have l1:len<=WM:=Int.le_trans jM.le h1.t1
  refine aw (aQ 2 (Ev.s (Ev.as (d:=fj WM (dq l au len)) (aI Sl (Nat.le_refl _) (af (ae 2 rfl) (af (ae 6 rfl) (af (ae 7 rfl) aq))) ⟨l,au,len,gZ,by omega,by omega,l1,rfl,rfl⟩) (fk _ _))) (fun _=>jP.nd)) ?_
  have t0:=h1.t0
  have t1:=h1.t1
  refine aw (aQ 3 (ck.to (t':=tF (fW WM (τ - len))) (Ev.s (aI Bw (by show k+3<=k+4;omega) (af (ae 3 rfl) (af (ae 7 rfl) aq)) ⟨fW WM τ,fW WM len,iZ eM lF t0 (by omega),iZ eM lF (by omega) (by omega),rfl,rfl⟩)) (by rw [J8 eM])) (fun _=>jP.nd)) ?_
  have DL:(dq l au len).length<=6:=by rw [Bt];exact gZ.len
  generalize dq l au len=bl at DL
  have ae8:(dc bl).length<=6:=by
   unfold dc
   exact Nat.le_trans (List.length_filter_le _ _) (by rw [gI];exact DL)
  rw [List.map_append]
  refine aK (rL 4 rfl (Ev.s (vG (dd:=[dF (fW WM len),dis au,dis ((dc bl).filter fun x=>au.contains x)]) (af (ae 7 rfl) (af (ae 6 rfl) (af (Ev.as (d:=dis ((dc bl).filter fun x=>au.contains x)) (pT (own:=["thing"]) (fr:=[6]) (dc bl) di (fun x=>au.contains x) ti (fun i=>lcs ⟨rfl,rfl,by decide +kernel,by decide +kernel,by decide +kernel,by decide +kernel⟩) (dD (aI Ij (by show k+3<=k+4;omega) (af (ae 2 rfl) aq) ⟨bl,DL,rfl,rfl⟩) (gf _)) (cm 0 (fun _=>by show List.Nodup (["thing", "eaten"]:List Str);decide)) (by decide) (by omega) (fun x hx=>⟨_,rfl,by exact j6 (M6 (ae 0 rfl) (ae 1 rfl) rfl (by with_unfolding_all rfl)),fun _=>by exact ae 0 rfl⟩) (fun dd=>by cases dd<;>rfl)) (gf _)) aq))) rfl (by show 3<=sizeLine;decide))) (by rw [List.length_map];omega))
 ·obtain ⟨⟨acc,l⟩,⟨τ,n⟩⟩:=p
  obtain ⟨h1,h2,h3,h4⟩:=hp
  have ht : τ=0:=by simpa using h
  replace h2:acc++gi n fo l τ=res:=h2
  rw [ht,As,List.append_nil] at h2
  rw [<- h2]
  exact aK (kD 4 rfl)
def j8 (steps:List dY)(a one:Int):Int:=((steps.filter fun s=>decide (aL s.au a=one)).map dY.len).sum
def ql (m:Nat)(steps:List dY)(a:Int):List Int:=(aB (m+1)).map (j8 steps a)
theorem TK (s:dY)(st:List dY)(a x:Int):j8 (s::st) a x=(if aL s.au a=x then s.len else 0)+j8 st a x:=by
 unfold j8
 rw [List.filter_cons]
 by_cases h:aL s.au a=x
 ·rw [if_pos (decide_eq_true h),if_pos h,List.map_cons,List.sum_cons]
 ·rw [if_neg (by rw [decide_eq_true_iff];exact h),if_neg h];omega
theorem SK {steps:List dY}(h:∀ s ∈ steps,0<=s.len)(a x:Int) : 0<=j8 steps a x/\j8 steps a x<=(steps.map dY.len).sum:=by
 induction steps with
 |nil=>exact ⟨Int.le_refl _,Int.le_refl _⟩
 |cons s st ih =>
  have:=ih fun t ht=>h t (.tail _ ht)
  have h0:=h s (.head _)
  rw [TK,List.map_cons,List.sum_cons]
  split<;>omega
theorem Xx {n:Nat}{o:List Int}(nd:o.Nodup)(h:∀ x ∈ o,0<=x/\x<n):(bb n o).Nodup:=by
 unfold bb mn
 rw [List.append_assoc,List.nodup_append]
 refine ⟨nd,?_,?_⟩
 ·rw [List.singleton_append,List.nodup_cons]
  refine ⟨fun hx=>?_,?_⟩
  ·obtain ⟨k,hk,e⟩:=List.mem_map.mp hx
   have:=List.mem_range.mp (List.mem_filter.mp hk).1
   omega
  ·rw [List.nodup_iff_pairwise_ne,List.pairwise_map]
   exact ((List.nodup_range (n:=n)).filter _).imp fun h z=>h (by omega)
 ·intro x hx y hy e
  subst e
  rcases List.mem_append.mp hy with hy | hy
  ·have:=List.mem_singleton.mp hy
   have:=h x hx
   omega
  ·obtain ⟨k,hk,e⟩:=List.mem_map.mp hy
   have h2:=(List.mem_filter.mp hk).2
   rw [e] at h2
   simp at h2
   exact h2 hx
theorem Ln {c:List Int}{os:List (List Int)}(T:bS c os):mE c.length (os.map (bb c.length)):=by
 refine ⟨by rw [List.length_map];exact T.o6,fun o ho=>?_,fun o ho x hx=>?_,fun o ho=>?_,fun o ho=>?_⟩
 ·obtain ⟨p,hp,rfl⟩:=List.mem_map.mp ho
  unfold bb;simp
 ·obtain ⟨p,hp,rfl⟩:=List.mem_map.mp ho
  have:=Li (T.cB p hp) x hx
  omega
 ·obtain ⟨p,hp,rfl⟩:=List.mem_map.mp ho
  exact Xx (T.nd p hp) (T.cB p hp)
 ·obtain ⟨p,hp,rfl⟩:=List.mem_map.mp ho
  have:=AY (n:=c.length) p
  have:=T.c6
  have:=Ah (T.nd p hp) (T.cB p hp)
  omega
structure NF (n:Nat) (s:dY):Prop where
 len:s.au.length=n
 l0 : 0<=s.len
 l1:s.len<=WM
abbrev o9:Stmt:=top 38
theorem Tf:bj ["steps", "asker", "one"] ["steps", "asker", "one"] (ah o9):=⟨rfl,rfl,rfl,by decide +kernel,rfl,by decide +kernel,by decide +kernel⟩
def Kg (dd:List Dv)(t:Tr):Prop:=∃ (n:Nat) (st:List dY) (a one:Int),(∀ s ∈ st,NF n s)/\st.length<=120/\0<=a/\a<n/\dd=[Cm st,di a,di one]/\t=tF (fW WM (j8 st a one))
theorem Tg {f f1:Addr}{fd aE:FuncData}{k:Nat}(F:bg K "eaten_by" "eaten_by" o9 f fd)(T:Txt mg)(AU:Kn P w K mg base ao (k+4) "sum_of" f1 aE ["some"] (spT K Cd)):aM P w K mg base ao (k+5) f fd ["steps", "asker", "one"] (spT K Kg):=by
 refine bD F.d Tf (fun dd t h=>by obtain ⟨_,_,_,_,_,_,_,_,rfl,_⟩:=h;rfl) fun dd t h=>?_
 obtain ⟨n,st,a,one,jM,sl,a0,a1,rfl,rfl⟩:=h
 refine ⟨_,.inl rfl,?_⟩
 have big : 1000<sizeLine:=by decide
 have eF:er (.ow ((st.filter fun s=>decide (aL s.au a=one)).map fun s=>tF (fW WM s.len)))=fj WM ((st.filter fun s=>decide (aL s.au a=one)).map dY.len):=by
  rw [fk]
  show Dv.lst _=Dv.lst (List.map _ (List.map _ _))
  rw [List.map_map];rfl
 refine aK (cf (Ev.s (aI AU (Nat.le_refl _) (af (Ev.as (pT (own:=["length", "eaten", "ended"]) (fr:=[2,1]) st qk (fun s=>decide (aL s.au a=one)) (fun s=>tF (fW WM s.len)) (fun i=>lcs ⟨rfl,rfl,by decide +kernel,by decide +kernel,by decide +kernel,by decide +kernel⟩) (dD (ae 0 rfl) rfl) (Ye 0 1 2 (fun _=>by show List.Nodup (["length", "eaten", "ended", "one", "asker"]:List Str);decide)) (by decide) (by omega) (fun s hs=>⟨_,rfl,by
   exact j6 (jq (dz (ae 1 rfl) (ae 4 rfl) rfl (Cg di a0 (by rw [(jM s hs).len];exact a1))) (ae 3 rfl)),fun _=>by exact ae 0 rfl⟩) (fun dd=>by rcases dd with _ | ⟨a,_ | ⟨b,_ | ⟨c,dd⟩⟩⟩<;>rfl)) eF) aq) ⟨WM,(st.filter fun s=>decide (aL s.au a=one)).map dY.len,eM,lF,fun x hx=>?_,?_,rfl,rfl⟩)))
 ·obtain ⟨s,hs,rfl⟩:=List.mem_map.mp hx
  have:=jM s (List.mem_filter.mp hs).1
  exact ⟨this.l0,this.l1⟩
 ·rw [List.length_map]
  exact Nat.le_trans (List.length_filter_le _ _) sl
abbrev p7:Stmt:=top 39
theorem vR:bj ["table", "steps", "many", "shares"] ["table"] (ah p7):=⟨rfl,rfl,rfl,by decide +kernel,rfl,by decide +kernel,by decide +kernel⟩
def pP (m:Nat)(st:List dY)(n:Nat):Dv:=.lst ((aB n).map fun a=>fj WM (ql m st a))
def NI (dd:List Dv)(t:Tr):Prop:=∃ (c:List Int) (os:List (List Int)),bS c os/\mE c.length (os.map (bb c.length))/\dd=[aW c os]/\t=.fz (.tup [Cm (fu c os),pP c.length (fu c os) os.length])
theorem Kh {c:List Int}{os:List (List Int)}(tab:bS c os)(gF:mE c.length (os.map (bb c.length))):∀ s ∈ fu c os,NF os.length s:=fun s hs=>by
 obtain ⟨l',hl,e,p,q⟩:=Ka gF 7 _ _ (A0 tab.c6 tab.cnt) s hs
 exact ⟨by rw [e,Bu,List.length_map],Int.le_of_lt p,q⟩
theorem Xy {f f1 f2:Addr}{fd aE fd2:FuncData}{k:Nat}(F:bg K "meal" "meal" p7 f fd)(T:Txt mg)(SN:Kn P w K mg base ao (k+5) "meal_steps" f1 aE ["table"] (spT K MF))(TL:Kn P w K mg base ao (k+5) "eaten_by" f2 fd2 ["steps", "asker", "one"] (spT K Kg)):aM P w K mg base ao (k+6) f fd ["table"] (spT K NI):=by
 refine bD F.d vR (fun dd t h=>by obtain ⟨_,_,_,_,rfl,_⟩:=h;rfl) fun dd t h=>?_
 obtain ⟨c,os,tab,gF,rfl,rfl⟩:=h
 refine ⟨_,.inl rfl,?_⟩
 have big : 1000<sizeLine:=by decide
 have c6:=tab.c6
 have o6:=tab.o6
 have jM:=Kh tab gF
 have aan:(fu c os).length<=7:=Kc 7 _ _ _
 have iB:(((os.map dis).length:Nat):Int)=os.length:=by rw [List.length_map]
 have xh:(((c.map di).length:Nat):Int)=c.length:=by rw [List.length_map]
 have uK:iz 0 (((os.map dis).length:Nat):Int).toNat=(aB os.length).map di:=by
  rw [iB,Int.toNat_natCast]
  unfold aB
  rw [List.map_map];rfl
 have aao:iz 0 ((((c.map di).length:Nat):Int)+1).toNat=(aB (c.length+1)).map di:=by
  rw [xh,show ((c.length:Int)+1).toNat=c.length+1 by omega]
  unfold aB
  rw [List.map_map];rfl
 have e1:er (.ow ((fu c os).map fun s=>.fz (qk s)))=Cm (fu c os):=fk _ _
 refine aw (aQ 1 (Ev.s (Ev.as (aI SN (Nat.le_refl _) (af (ae 0 rfl) aq) ⟨c,os,tab,gF,rfl,rfl⟩) e1)) (fun _=>vR.nd)) ?_
 generalize fu c os=st at jM aan
 refine aw (aQ 2 (Ev.s (cu T.cg (aV (d:=dis c) (ae 0 rfl) ak rfl rfl) (.inl rfl))) (fun _=>vR.nd)) ?_
 have e2:er (.ow ((aB os.length).map fun a=>.ow ((aB (c.length+1)).map fun x=>tF (fW WM (j8 st a x)))))=pP c.length st os.length:=by
  rw [fk]
  unfold pP
  congr 1
  refine List.map_congr_left fun a _=>?_
  rw [fk]
  unfold ql
  show _=Dv.lst _
  rw [List.map_map];rfl
 refine aw (lW 3 (qB (fh.as (tO (own:=["asker"]) (fr:=[1,2]) (aB os.length) di (fun a=>.ow ((aB (c.length+1)).map fun x=>tF (fW WM (j8 st a x)))) (bJ.to (iS T.fM (cu T.cg (aV (d:=.lst (os.map dis)) (ae 0 rfl) ak rfl rfl) (.inl rfl)) (by rw [iB];omega)) uK) (cm 0 (fun _=>by show List.Nodup (["asker", "steps", "many"]:List Str);decide)) (by decide) (by rw [gI];omega) (fun a ha=>⟨_,rfl,by
   obtain ⟨a0,a1⟩:=gg.mp ha
   exact jm (own:=["one"]) (fr:=[1,0]) (aB (c.length+1)) di (fun x=>tF (fW WM (j8 st a x))) (fun i=>CH ["asker", "steps", "many"] ⟨rfl,by decide +kernel,by decide +kernel,by decide +kernel,by decide +kernel⟩ fun y hy=>lM _ _ y hy) (bJ.to (iS T.fM (jj (ae 2 rfl) ak) (by rw [xh];omega)) aao) (cm 0 (fun _=>by show List.Nodup (["one", "steps", "asker"]:List Str);decide)) (by decide) (by rw [gI];omega) (fun x hx=>⟨_,rfl,by
    exact aI TL (Nat.le_refl _) (af (ae 1 rfl) (af (ae 2 rfl) (af (ae 0 rfl) aq))) ⟨os.length,st,a,x,jM,by omega,a0,a1,rfl,rfl⟩⟩) (fun dd=>by cases dd<;>rfl)⟩) (fun dd=>by cases dd<;>rfl)) e2)) (fun i=>wU ⟨rfl,rfl,by decide +kernel,by decide +kernel,by decide +kernel,by decide +kernel⟩) (fun _=>vR.nd)) ?_
 exact aK (cf (Ev.s (vG (af (ae 1 rfl) (af (ae 3 rfl) aq)) rfl (by show 2<=sizeLine;decide))))
end
section
variable {P:Program}{w:World}{K:PySem.W.Frag}{mg:Str->Option Value}{base:Heap}
structure e7 where
 Ki:Addr
 sD:Addr
 ft:Addr
 Bx:Addr
 By:Addr
 CU:Addr
 A3:Addr
 Cp:Addr
 A4:Addr
 A5:Addr
 Cq:Addr
 Cr:Addr
 CV:Addr
 Bz:Addr
structure wK (K:PySem.W.Frag) (c:e7) (N:Addr) (b0 b1:Bool):Prop where
 s:PySem.W.subIn K (.ref N) (.ref c.Ki)=some true
 a:gq K N
 v:PySem.W.kitOne K (.ref N) (.type "ValueError")=some true
 q0:PySem.W.kitOne K (.ref N) (.ref c.sD)=some b0
 q1:PySem.W.kitOne K (.ref N) (.ref c.ft)=some b1
 UJ:PySem.W.kitOne K (.ref N) (.ref c.Bx)=some false
 UK:PySem.W.kitOne K (.ref N) (.ref c.By)=some false
 Xz:PySem.W.kitOne K (.ref N) (.ref c.CU)=some false
 TN:PySem.W.kitOne K (.ref N) (.ref c.A3)=some false
 VI:PySem.W.kitOne K (.ref N) (.ref c.Cp)=some false
 TQ:PySem.W.kitOne K (.ref N) (.ref c.A4)=some false
 TR:PySem.W.kitOne K (.ref N) (.ref c.A5)=some false
 VJ:PySem.W.kitOne K (.ref N) (.ref c.Cq)=some false
 VL:PySem.W.kitOne K (.ref N) (.ref c.Cr)=some false
 XA:PySem.W.kitOne K (.ref N) (.ref c.CV)=some false
 UL:PySem.W.kitOne K (.ref N) (.ref c.Bz)=some false
structure tu (K:PySem.W.Frag) (mg:Str->Option Value) (c:e7):Prop where
 SQ:mg "ValueError" = none
 cat:P9 K mg "LotError" c.Ki
 rN:mg "NoTurns" = some (.ref c.sD)
 mX:mg "TooGreat" = some (.ref c.ft)
 rO:mg "NoAsker" = some (.ref c.Bx)
 rP:mg "NoThing" = some (.ref c.By)
 sE:mg "Twice" = some (.ref c.CU)
 rH:mg "NoNumber" = some (.ref c.A3)
 rY:mg "NoText" = some (.ref c.Cp)
 rJ:mg "NoShares" = some (.ref c.A4)
 rK:mg "NoTicket" = some (.ref c.A5)
 rZ:mg "NoName" = some (.ref c.Cq)
 r6:mg "Double" = some (.ref c.Cr)
 sF:mg "NoRow" = some (.ref c.CV)
 rQ:mg "NoTable" = some (.ref c.Bz)
 vk:PySem.W.excIn K c.sD qz "ValueError.__new__" = true
 pd:PySem.W.excIn K c.ft qz "ValueError.__new__" = true
 aeW:wK K c c.sD true false
 zZ:wK K c c.ft false true
abbrev Qs:List Str:=["_law_e", "_law_some"]
abbrev mS:Stmt:=top 65
theorem rl:bj Qs ["_law_e"] (ah mS):=⟨rfl,rfl,rfl,by decide +kernel,rfl,by decide +kernel,by decide +kernel⟩
theorem aap {N:List Str}{qual:Str}{bP sc:Scope}{f:Addr}{cd:Value}{A:Around}{outer:List Env}{s:Shared}{H:Hp}{fr:List Nat}(L:KG N bP sc fr):hJ (xX P w K mg base N qual bP f cd A outer s H) sc (eY (cellsFrom (s.heap.objs.size+1) bP.names []) sc.names []) fr:=by
 have Z:=lcs (CX:=ao) (P:=P) (w:=w) (K:=K) (mg:=mg) (base:=base) (qual:=qual) (f:=f) (cd:=cd) (A:=A) (outer:=outer) (s:=s) (H:=H) (E:=fun _ _ _=>False) (XE:=fun _ _=>False) L
 exact ⟨Z.wR,Z.kind,Z.cells,Z.names,Z.sub,Z.has,Z.PB⟩
theorem DM {X:Cx}{K:PySem.W.Frag}(h:X.K=K):cV X (binaryOp .Add) (CD K):=h ▸ KC
def kj (b0 b1:Bool):List Bool:=[b0,b1,false,false,false,false,false,false,false,false,false,false,false,true]
def iO (fl:List Bool)(n:Nat):List Int:=((List.range n).filter fun i=>fl.getD i false).map fun (i:Nat)=>(0+(i:Int))
theorem VM (fl:List Bool)(n:Nat):iO fl (n+1)=if fl.getD n false=true then iO fl n++[0+(n:Int)] else iO fl n:=by
 unfold iO
 rw [List.range_succ,List.filter_append,List.map_append,List.filter_cons,List.filter_nil]
 cases h:fl.getD n false<;>simp
theorem XB (fl:List Bool)(n:Nat):(iO fl n).length<=n:=by
 unfold iO
 rw [List.length_map]
 have:=List.length_filter_le (fun i=>fl.getD i false) (List.range n)
 rw [List.length_range] at this
 exact this
theorem VN (b0 b1:Bool)(i:Nat)(h:i<14):bq ((kj b0 b1).map V.bl) (0+(i:Int))=some (.bl ((kj b0 b1).getD i false)):=by
 have h':i<(kj b0 b1).length:=h
 rw [Int.zero_add]
 exact fL (by rw [List.getElem?_map,List.getElem?_eq_getElem h',List.getD_eq_getElem?_getD,List.getElem?_eq_getElem h'];rfl)
def wL (K:PySem.W.Frag)(mg:Str->Option Value)(c:e7)(x:Addr):Sp:=fun vs H Q _=>∃ (N:Addr) (d:Option Addr) (b0 b1:Bool),vs=[.ref x]/\H x=some (i7 x N d)/\wK K c N b0 b1/\∀ l H',ai H H'->H l=none->H' l=some (.lst ((iO (kj b0 b1) 14).map V.int))->Q (.ref l) H'
theorem RL {f:Addr}{fd:FuncData}{c:e7}(F:bg K "_law_classes" "_law_classes" mS f fd)(T:Txt mg)(U:tu K mg c):wG P w K mg base 1 f fd ["_law_e"] (wL K mg c):=by
 refine F.d.okH rl (fun x vs H Q E ⟨_,_,_,_,h,_⟩=>by rw [h];rfl) fun x aU A outer s H vs Q hh hr h=>?_
 obtain ⟨N,d,b0,b1,rfl,he,X,q⟩:=h
 refine ⟨_,fm (ji (i:=1) rl.nd rfl (Or.inr rfl) (sJ (aF (d8 (gH (K:=K) rfl) (by rfl) T.fK fZ (aF (pv 0) (aF (gJ (v:=.ref c.sD) (by rfl) U.rN rfl) bu))) (aF (d8 (gH (K:=K) rfl) (by rfl) T.fK fZ (aF (pv 0) (aF (gJ (v:=.ref c.ft) (by rfl) U.mX rfl) bu))) (aF (d8 (gH (K:=K) rfl) (by rfl) T.fK fZ (aF (pv 0) (aF (gJ (v:=.ref c.Bx) (by rfl) U.rO rfl) bu))) (aF (d8 (gH (K:=K) rfl) (by rfl) T.fK fZ (aF (pv 0) (aF (gJ (v:=.ref c.By) (by rfl) U.rP rfl) bu))) bu))))))
  (fm (ji (i:=1) rl.nd rfl (Or.inr rfl) (sS (DM (K:=K) rfl) (pv 1) (sJ (aF (d8 (gH (K:=K) rfl) (by rfl) T.fK fZ (aF (pv 0) (aF (gJ (v:=.ref c.CU) (by rfl) U.sE rfl) bu))) (aF (d8 (gH (K:=K) rfl) (by rfl) T.fK fZ (aF (pv 0) (aF (gJ (v:=.ref c.A3) (by rfl) U.rH rfl) bu))) (aF (d8 (gH (K:=K) rfl) (by rfl) T.fK fZ (aF (pv 0) (aF (gJ (v:=.ref c.Cp) (by rfl) U.rY rfl) bu))) (aF (d8 (gH (K:=K) rfl) (by rfl) T.fK fZ (aF (pv 0) (aF (gJ (v:=.ref c.A4) (by rfl) U.rJ rfl) bu))) bu)))))))
  (fm (ji (i:=1) rl.nd rfl (Or.inr rfl) (sS (DM (K:=K) rfl) (pv 1) (sJ (aF (d8 (gH (K:=K) rfl) (by rfl) T.fK fZ (aF (pv 0) (aF (gJ (v:=.ref c.A5) (by rfl) U.rK rfl) bu))) (aF (d8 (gH (K:=K) rfl) (by rfl) T.fK fZ (aF (pv 0) (aF (gJ (v:=.ref c.Cq) (by rfl) U.rZ rfl) bu))) (aF (d8 (gH (K:=K) rfl) (by rfl) T.fK fZ (aF (pv 0) (aF (gJ (v:=.ref c.Cr) (by rfl) U.r6 rfl) bu))) (aF (d8 (gH (K:=K) rfl) (by rfl) T.fK fZ (aF (pv 0) (aF (gJ (v:=.ref c.CV) (by rfl) U.sF rfl) bu))) bu)))))))
  (fm (ji (i:=1) rl.nd rfl (Or.inr rfl) (sS (DM (K:=K) rfl) (pv 1) (sJ (aF (d8 (gH (K:=K) rfl) (by rfl) T.fK fZ (aF (pv 0) (aF (gJ (v:=.ref c.Bz) (by rfl) U.rQ rfl) bu))) (aF (d8 (gH (K:=K) rfl) (by rfl) T.fK fZ (aF (pv 0) (aF (Kr (v:=.ty "ValueError") (by rfl) U.SQ R3 rfl) bu))) bu)))))
  (jT (lU (Yy (X:=(xX P w K mg base Qs "_law_classes" (ah mS) f aU A outer s H)) (own:=["_law_k"]) (fr:=[1]) (aap ⟨rfl,rfl,by decide +kernel,by decide +kernel,by decide +kernel,by decide +kernel⟩) (Uy hh rfl T.fM (aF nj bu)) (fun C s H ex pn=>jU (i:=0) (by show List.Nodup (["_law_k", "_law_some"]:List Str);decide) rfl (Or.inl rfl)) (fun C s H ex pn=>M4 (Lv (sT (JB (K:=K) rfl) (pv (x := "_law_some") 1) (pv (x := "_law_k") 0) (fun _ _=>rfl))) rfl) (fun C s H ex pn=>pv (x := "_law_k") 0))))))),?_⟩
 show dU _ _ _ [some (.ref x),none] H
 refine ⟨_,rfl,x,_,_,_,d,rfl,he,X.a,(fun u r=>by cases r;exact X.q0),_,rfl,x,_,_,_,d,rfl,he,X.a,(fun u r=>by cases r;exact X.q1),_,rfl,x,_,_,_,d,rfl,he,X.a,(fun u r=>by cases r;exact X.UJ),_,rfl,x,_,_,_,d,rfl,he,X.a,(fun u r=>by cases r;exact X.UK),by show 4<=sizeLine;decide,fun l1 EX=>?_⟩
 generalize fe:[V.bl b0,V.bl b1,V.bl false,V.bl false]=B1
 have Qt:B1.length=4:=by rw [<- fe];rfl
 have e1:ai H (upd H l1 (.lst B1)):=ai.new EX
 have g1:upd H l1 (.lst B1) l1=some (.lst B1):=bE
 have x1:=e1 _ _ he
 show dU _ _ _ [some (.ref x),some (.ref l1)] (upd H l1 (.lst B1))
 generalize upd H l1 (.lst B1)=H1 at e1 g1 x1
 refine ⟨_,rfl,_,rfl,x,_,_,_,d,rfl,x1,X.a,(fun u r=>by cases r;exact X.Xz),_,rfl,x,_,_,_,d,rfl,x1,X.a,(fun u r=>by cases r;exact X.TN),_,rfl,x,_,_,_,d,rfl,x1,X.a,(fun u r=>by cases r;exact X.VI),_,rfl,x,_,_,_,d,rfl,x1,X.a,(fun u r=>by cases r;exact X.TQ),by show 4<=sizeLine;decide,fun m1 hm1=>?_⟩
 have f1:ai H1 (upd H1 m1 (.lst [V.bl false,V.bl false,V.bl false,V.bl false])):=ai.new hm1
 refine ⟨l1,m1,_,_,rfl,rfl,aH.of (f1 _ _ g1),aH.of bE,by rw [Qt];show 8<=sizeLine;decide,fun l2 iI=>?_⟩
 have oy:ai H (upd H1 m1 (.lst [V.bl false,V.bl false,V.bl false,V.bl false])):=e1.trans f1
 generalize upd H1 m1 (.lst [V.bl false,V.bl false,V.bl false,V.bl false])=J1 at f1 oy iI
 generalize ot:B1++[V.bl false,V.bl false,V.bl false,V.bl false]=B2
 have Qu:B2.length=8:=by rw [<- ot,List.length_append,Qt];rfl
 have e2:ai H (upd J1 l2 (.lst B2)):=oy.trans (ai.new iI)
 have g2:upd J1 l2 (.lst B2) l2=some (.lst B2):=bE
 have x2:=e2 _ _ he
 show dU _ _ _ [some (.ref x),some (.ref l2)] (upd J1 l2 (.lst B2))
 generalize upd J1 l2 (.lst B2)=H2 at e2 g2 x2
 refine ⟨_,rfl,_,rfl,x,_,_,_,d,rfl,x2,X.a,(fun u r=>by cases r;exact X.TR),_,rfl,x,_,_,_,d,rfl,x2,X.a,(fun u r=>by cases r;exact X.VJ),_,rfl,x,_,_,_,d,rfl,x2,X.a,(fun u r=>by cases r;exact X.VL),_,rfl,x,_,_,_,d,rfl,x2,X.a,(fun u r=>by cases r;exact X.XA),by show 4<=sizeLine;decide,fun m2 n5=>?_⟩
 have f2:ai H2 (upd H2 m2 (.lst [V.bl false,V.bl false,V.bl false,V.bl false])):=ai.new n5
 refine ⟨l2,m2,_,_,rfl,rfl,aH.of (f2 _ _ g2),aH.of bE,by rw [Qu];show 12<=sizeLine;decide,fun l3 Qv=>?_⟩
 have oz:ai H (upd H2 m2 (.lst [V.bl false,V.bl false,V.bl false,V.bl false])):=e2.trans f2
 generalize upd H2 m2 (.lst [V.bl false,V.bl false,V.bl false,V.bl false])=J2 at f2 oz Qv
 generalize Qw:B2++[V.bl false,V.bl false,V.bl false,V.bl false]=B3
 have Qx:B3.length=12:=by rw [<- Qw,List.length_append,Qu];rfl
 have e3:ai H (upd J2 l3 (.lst B3)):=oz.trans (ai.new Qv)
 have g3:upd J2 l3 (.lst B3) l3=some (.lst B3):=bE
 have x3:=e3 _ _ he
 show dU _ _ _ [some (.ref x),some (.ref l3)] (upd J2 l3 (.lst B3))
 generalize upd J2 l3 (.lst B3)=H3 at e3 g3 x3
 refine ⟨_,rfl,_,rfl,x,_,_,_,d,rfl,x3,X.a,(fun u r=>by cases r;exact X.UL),_,rfl,x,_,_,_,d,rfl,x3,X.a,(fun u r=>by cases r;exact X.v),by show 2<=sizeLine;decide,fun m3 hm3=>?_⟩
 have f3:ai H3 (upd H3 m3 (.lst [V.bl false,V.bl true])):=ai.new hm3
 refine ⟨l3,m3,_,_,rfl,rfl,aH.of (f3 _ _ g3),aH.of bE,by rw [Qx];show 14<=sizeLine;decide,fun l4 Qy=>?_⟩
 have Qz:ai H (upd H3 m3 (.lst [V.bl false,V.bl true])):=e3.trans f3
 generalize upd H3 m3 (.lst [V.bl false,V.bl true])=J3 at f3 Qz Qy
 generalize QA:B3++[V.bl false,V.bl true]=B4
 have zb4:B4.length=14:=by rw [<- QA,List.length_append,Qx];rfl
 have e4:ai H (upd J3 l4 (.lst B4)):=Qz.trans (ai.new Qy)
 have g4:upd J3 l4 (.lst B4) l4=some (.lst B4):=bE
 have x4:=e4 _ _ he
 dsimp only [cZ,List.set,kN]
 show qK _ _ _ _ _ _ [some (.ref x),some (.ref l4)] (upd J3 l4 (.lst B4)) _
 generalize upd J3 l4 (.lst B4)=H4 at e4 g4 x4
 have hB:B4=(kj b0 b1).map V.bl:=by rw [<- QA,<- Qw,<- ot,<- fe];rfl
 subst hB
 generalize EH:kj b0 b1=fl at *
 have flg:∀ i:Nat,i<14->bq (fl.map V.bl) (0+(i:Int))=some (.bl (fl.getD i false)):=fun i hi=>by rw [<- EH];exact VN b0 b1 i hi
 refine ⟨14,rfl,by decide,by decide,fun acc dg=>?_⟩
 have na:x ≠ acc:=fun z=>by rw [z,dg] at x4;cases x4
 have nl:l4 ≠ acc:=fun z=>by rw [z,dg] at g4;cases g4
 refine ⟨fun i m ys aA H2=>i+m=14/\ys=(iO fl i).map V.int/\(∃ o,aA=[o,some (.ref l4)])/\H2=upd H4 acc (.lst ys),⟨14,rfl,rfl,⟨none,rfl⟩,rfl⟩,?_⟩
 rintro i m ys aA H2 ⟨hi,rfl,⟨o,rfl⟩,rfl⟩
 have il:=XB fl i
 have big : 1000<sizeLine:=by decide
 refine ⟨bE,by rw [List.length_map];omega,?_⟩
 by_cases h14:i=14
 ·subst h14
  refine .inl ⟨⟨Nat.le_refl _,_,_,by rw [aP na];exact x4⟩,q acc _ (e4.trans (ai.new dg)) (e4.free dg) ?_⟩
  rw [bE]
 ·refine .inr ⟨by show i<14;omega,fun ys aA H2=>ys=(iO fl (i+1)).map V.int/\(∃ o,aA=[o,some (.ref l4)])/\H2=upd H4 acc (.lst ys),fun zs bp H3 z=>⟨m-1,by omega,by omega,z⟩,?_⟩
  rintro v H3 ⟨rfl,rfl⟩
  have lt:i<14:=by omega
  refine ⟨_,rfl,_,rfl,l4,_,_,_,rfl,rfl,aH.of (by rw [aP nl];exact g4),flg i lt,_,rfl,?_⟩
  have es:=VM fl i
  cases hb:fl.getD i false with
  |true =>
   rw [hb,if_pos rfl] at es
   refine i6 ⟨_,rfl,bE,by rw [es,List.map_append];rfl,⟨_,rfl⟩,?_⟩
   rw [VS]
  |false =>
   rw [hb,if_neg (by decide)] at es
   exact kg ⟨by rw [es],⟨_,rfl⟩,rfl⟩
structure EY (P:Program) (w:World) (K:PySem.W.Frag) (mg:Str->Option Value) (base:Heap) (k:Nat) (x:Str) (f:Addr) (fd:FuncData) (ps:List Str) (sp:Addr->Sp):Prop where
 ok:wG P w K mg base k f fd ps sp
 mL:mg x=some (.ref f)
 kp:PySem.W.keepIn K (.ref f)=true
 bd:Binds K fd ps []
def aaq:Stmt->List Stmt
 | .Try _ (.ExceptHandler _ _ b _::_) _ _ _=>b
 |_=>[]
end
section
variable {P:Program}{w:World}{K:PySem.W.Frag}{mg:Str->Option Value}{base:Heap}
abbrev nO:=Hp->Hp->XK->Prop
theorem VO {N:List Str}{qual:Str}{sc:Scope}{f:Addr}{k:Nat}{ρ:En}{bA:List Stmt}{Ξ:nO}{g g2:Str}{j j2:Nat}{f' f2:Addr}{ou fd2:FuncData}{dN ps2:List Str}{R:List Dv->nO->Prop}{QB:Sp}{a e:Expr}{es:List Expr}{t:Tr}{ts:List Tr}{p1 p2 p3 p4 pos:Pos}(F2:Kn P w K mg base ao j2 g2 f2 fd2 ps2 QB)(lz:j2<=k)(hA:Ev (mz P w K mg base N qual sc f k) a (pk ρ) t)(Fn:Kn P w K mg base (cn P w) j g f' ou dN (cD K R))(hj:j<=k)(ha:eG (mz P w K mg base N qual sc f k) (e::es) (pk ρ) ts)(hR:R (cE ts) Ξ)(la:Later Ξ)(hg:∀ i,Gl (bw P w K mg base N qual sc f k i) g:=by intro _;rfl)(lD:(g==("__debug__" : Str))=false:=by decide)(n6:∀ i,Gl (bw P w K mg base N qual sc f k i) g2:=by intro _;rfl)(aar:(g2==("__debug__" : Str))=false:=by decide)(he:∀ i,starEach (e::es) (bw P w K mg base N qual sc f k i).env=(false,eval e (bw P w K mg base N qual sc f k i).env)::starEach es (bw P w K mg base N qual sc f k i).env:=by intro _;rfl)(bW:∀ i,(backTo p3 (starEach es (bw P w K mg base N qual sc f k i).env)).any (·.1)=false:=by intro _;rfl)(he1:∀ i,starEach [.Call (.Name g p2) (e::es) [] p3] (bw P w K mg base N qual sc f k i).env=[(false,eval (.Call (.Name g p2) (e::es) [] p3) (bw P w K mg base N qual sc f k i).env)]:=by intro _;rfl)(QC:∀ i,starEach [a,.Call (.Name g p2) (e::es) [] p3] (bw P w K mg base N qual sc f k i).env=(false,eval a (bw P w K mg base N qual sc f k i).env)::starEach [.Call (.Name g p2) (e::es) [] p3] (bw P w K mg base N qual sc f k i).env:=by intro _;rfl)(aas:∀ i,(backTo p4 (starEach [.Call (.Name g p2) (e::es) [] p3] (bw P w K mg base N qual sc f k i).env)).any (·.1)=false:=by intro _;rfl) :
  lC P w K mg base N qual sc f k (.Return (some (.Call (.Name g2 p1) [a,.Call (.Name g p2) (e::es) [] p3] [] p4)) pos::bA) ρ Ξ:=by
 obtain ⟨te,ye,ze⟩:=hA.use
 obtain ⟨ta,ya,za⟩:=ha.use
 have ye':∀ i,PE (bw P w K mg base N qual sc f k i) a te:=fun i pins s σ H Q I hw=>wpAny_mono (ye i pins s σ H Q (I.fD _) hw) (fun _ _ ⟨v,H',I',r,q⟩=>⟨v,H',I'.hZ,r,q⟩) fun _ _ z=>False.elim z
 have EF:∀ i,PA (bw P w K mg base N qual sc f k i) (e::es) ta:=fun i p pins s σ H Q I hw=>wpAny_mono (ya i p pins s σ H Q (I.fD _) hw) (fun _ _ ⟨v,H',I',r,q⟩=>⟨v,H',I'.hZ,r,q⟩) fun _ _ z=>False.elim z
 refine ⟨fun i=>dU (kN (kG QB [] E0 (bY te (bY (kE (cD K R) [] (fun _=>i.E) ta) cI)))) fO,fun i=>fm (lU (wq (X:=bw P w K mg base N qual sc f k i) F2 (i.hr.mono lz) (n6 i) (aF (ye' i) (aF (AB (X:=bw P w K mg base N qual sc f k i) Fn.ok (i.hr.mono hj) (hg i) Fn.mL Fn.kp Fn.bd .nil (Passes.s IL) (EF i) lD (he i) (bW i)) bu (he1 i)) (QC i)) aar (QC i) (aas i))) jh,fun i D σ G0 H0 G H r kx=>?_⟩
 obtain ⟨fp,r⟩:=r
 have s0:Step G0 H0 (dk G H fp) H:=r.st.cK ⟨r.n,r.g,r.d⟩
 have rp:=r.own.pk (g9 r.g) fun a ha=>iU ha
 refine ze σ (dk G H fp) H _ (lN r.st.s) rp fun v G1 H1 s1 _=>za σ G1 H1 _ s1.s (rp.mono s1.g) fun vs G2 H2 s2 hx=>?_
 exact ⟨G2,cE ts,Ξ,s2.s,by rw [List.append_nil];exact hx,hR,la _ _ _ _ _ (s0.trans (s1.trans s2)) kx⟩
def Lq (c:e7)(dd:List Dv)(Ξ:nO):Prop:=∃ n:Int,5<n/\dd=[di n]/\Ξ=fun G H E=>jg G H c.ft E
theorem Sn {f:Addr}{fd:FuncData}{k:Nat}{c:e7}(F:bg K "all_turns" "all_turns" mV f fd)(T:Txt mg)(U:tu K mg c):aM P w K mg base (cn P w) (k+1) f fd ["many"] (cD K (Lq c)):=by
 refine pL F.d rC (fun dd Ξ h=>by obtain ⟨_,_,rfl,_⟩:=h;rfl) fun dd Ξ h=>?_
 obtain ⟨n,hn,rfl,rfl⟩:=h
 obtain ⟨tk,hg⟩:=T.oQ
 exact Ms (cX.to (q:=true) (Et.s (mh (ae 0 rfl) (ng (v:=.int 5) hg ⟨_,rfl⟩ rfl))) (decide_eq_true hn)) (uD.g (Jp U.mX U.pd))
def wM (c:e7)(dd:List Dv)(Ξ:nO):Prop:=∃ (cs:List Int) (os:List (List Int)),5<os.length/\dd=[aW cs os]/\Ξ=fun G H E=>jg G H c.ft E
theorem SR {f f1:Addr}{fd aE:FuncData}{k:Nat}{c:e7}(F:bg K "turn_mix" "turn_mix" cw f fd)(T:Txt mg)(SU:Kn P w K mg base (cn P w) (k+1) "all_turns" f1 aE ["many"] (cD K (Lq c))):aM P w K mg base (cn P w) (k+2) f fd ["table"] (cD K (wM c)):=by
 refine pL F.d mW (fun dd Ξ h=>by obtain ⟨_,_,_,rfl,_⟩:=h;rfl) fun dd Ξ h=>?_
 obtain ⟨cs,os,hn,rfl,rfl⟩:=h
 exact Bo (jn:=0) SU (Nat.le_refl _) (af (cu T.cg (aV (d:=.lst (os.map dis)) (ae 0 rfl) ak rfl rfl) (.inl rfl)) aq) ⟨_,by rw [List.length_map];omega,rfl,rfl⟩ sx mW.nd 1
theorem RM {f f1 f2:Addr}{fd aE fd2:FuncData}{k:Nat}{c:e7}(F:bg K "turn_shares" "turn_shares" mU f fd)(T:Txt mg)(zM:Kn P w K mg base ao (k+6) "shares_of" f1 aE ["counts", "mix"] (spT K Aq))(Th:Kn P w K mg base (cn P w) (k+2) "turn_mix" f2 fd2 ["table"] (cD K (wM c))):aM P w K mg base (cn P w) (k+7) f fd ["table"] (cD K (wM c)):=by
 refine pL F.d Ih (fun dd Ξ h=>by obtain ⟨_,_,_,rfl,_⟩:=h;rfl) fun dd Ξ h=>?_
 obtain ⟨cs,os,hn,rfl,rfl⟩:=h
 exact VO zM (by omega) (aV (d:=dis cs) (ae 0 rfl) ak rfl rfl) Th (by omega) (af (ae 0 rfl) aq) ⟨cs,os,hn,rfl,rfl⟩ sx
end
section
variable {P:Program}{w:World}{K:PySem.W.Frag}{mg:Str->Option Value}{base:Heap}
def dZ (n k:Nat):List (List Int):=(List.range (k+1)).flatMap (bX n)
theorem Lr (n k:Nat):dZ n (k+1)=dZ n k++bX n (k+1):=by
 unfold dZ
 rw [List.range_succ (n:=k+1),List.flatMap_append]
 simp
theorem A6:∀ n,n<=4->∀ k,k<=n->(dZ n k).length<=65:=by
 have:∀ n:Fin 5,∀ k:Fin (n.val+1),(dZ n.val k.val).length<=65:=by decide +kernel
 intro n hn k hk
 exact this ⟨n,by omega⟩ ⟨k,by show k<n+1;omega⟩
theorem MG {K:PySem.W.Frag}{G:Hp}:∀ l:List Int,aO K G (l.map di) (l.map V.int)
 |[] => rfl
 |n::l=>⟨.int n,l.map V.int,rfl,⟨rfl,rfl⟩,MG l⟩
theorem Kj {K:PySem.W.Frag}{G:Hp}:∀ {ps:List (Addr×List Int)},(∀ p ∈ ps,G p.1=some (.lst (p.2.map V.int)))->aO K G ((ps.map (·.2)).map dis) (ps.map fun p=>V.ref p.1)
 |[],_=>rfl
 |p::ps,h=>⟨.ref p.1,_,rfl,⟨p.1,p.2.map V.int,rfl,aH.of (h p (.head _)),MG p.2⟩,Kj fun q hq=>h q (.tail _ hq)⟩
theorem Kk {K:PySem.W.Frag}{G H:Hp}:∀ {ps:List (Addr×List Int)},(∀ p ∈ ps,H p.1=some (.lst (p.2.map V.int)))->aG K G H ((ps.map (·.2)).map tL) (ps.map fun p=>V.ref p.1) (ps.map (·.1))
 |[],_=>⟨rfl,rfl⟩
 |p::ps,h=>⟨.ref p.1,_,[p.1],ps.map (·.1),rfl,rfl,⟨p.1,p.2.map V.int,[],rfl,h p (.head _),Cb p.2,rfl⟩,Kk fun q hq=>h q (.tail _ hq)⟩
structure Told (H0 H:Hp) (a:Addr) (ps:List (Addr×List Int)):Prop where
 at_:H a=some (.lst (ps.map fun p=>V.ref p.1))
 rows:∀ p ∈ ps,H p.1=some (.lst (p.2.map V.int))
 nd:(a::ps.map (·.1)).Nodup
 new:∀ x ∈ a::ps.map (·.1),H0 x=none
theorem BA {K:PySem.W.Frag}{G H0 H:Hp}{L:List (List Int)}{v:V}{fq:List Addr}(h:Ow K G H (iN L) v fq)(n:∀ x ∈ fq,H0 x=none)(d:fq.Nodup):∃ a ps,v=.ref a/\fq=a::ps.map (·.1)/\ps.map (·.2)=L/\Told H0 H a ps:=by
 obtain ⟨a,vs,PU,rfl,ha,gW,rfl⟩:=h
 obtain ⟨ps,rfl,rfl,e3,e4⟩:=Bk gW
 exact ⟨a,ps,rfl,rfl,e3,ha,e4,d,n⟩
abbrev dw:Stmt:=top 57
abbrev gG:List Str:=["many", "told", "longest", "length"]
theorem oO:bj gG ["many"] (ah dw):=⟨rfl,rfl,rfl,by decide +kernel,rfl,by decide +kernel,by decide +kernel⟩
abbrev DN (i:Nat):Stmt:=(aN dw).getD i (.Pass ⟨0,0,0,0⟩)
theorem bmX {X:Cx}{K:PySem.W.Frag}{e:Expr}{t:TE}{ta:TA}(hK:X.K=K)(h:PE X e (jz X.K "list" si t ta)):PE X e (jz K "list" si t ta):=hK ▸ h
theorem Y0 {f f1:Addr}{aE:FuncData}{k n:Nat}(T:Txt mg)(rX:Kn P w K mg base ao (k+1) "longer" f1 aE ["lists", "many"] (spT K sy))(hn:n<=4) :
  ∃ τ:TS,(∀ i,PS ((bB P w K mg base gG "all_orders" (ah dw) f (k+1)).cx i) (DN 3) τ)/\∀ (D:Ends) (o3:Option V) (H0 H:Hp) (a b:Addr) (ps qs:List (Addr×List Int)),ai H0 H->Told H0 H a ps->ps.map (·.2)=dZ n 0->H b=some (.lst (qs.map fun p=>V.ref p.1))->(∀ q ∈ qs,H q.1=some (.lst (q.2.map V.int)))->qs.map (·.2)=bX n 0 ->
   (∀ o2 o3 H' dN,ai H0 H'->Told H0 H' a dN->dN.map (·.2)=dZ n n->D.nx [some (.int n),some (.ref a),o2,o3] H')->τ D [some (.int n),some (.ref a),some (.ref b),o3] H:=by
 refine ⟨qu (wo (bY (bT 0) cI)) (cZ 3) (dU (i3 (kG (spT K sy) [] E0 (bY (bT 2) (bY (bT 0) cI))) (cZ 2)) (gL (jz K "list" si (bT 1) (bY (bT 2) cI)))),fun i=>?_,?_⟩
 ·exact BF (X:=(bB P w K mg base gG "all_orders" (ah dw) f (k+1)).cx i) (wX rfl) rfl (IV (X:=(bB P w K mg base gG "all_orders" (ah dw) f (k+1)).cx i) rfl T.fM (aF (pv (X:=(bB P w K mg base gG "all_orders" (ah dw) f (k+1)).cx i) (x := "many") 0) bu)) (jU (X:=(bB P w K mg base gG "all_orders" (ah dw) f (k+1)).cx i) (i:=3) oO.nd rfl (Or.inl rfl))
   (fm (ji (X:=(bB P w K mg base gG "all_orders" (ah dw) f (k+1)).cx i) (i:=2) oO.nd rfl (Or.inl rfl) (wq (X:=(bB P w K mg base gG "all_orders" (ah dw) f (k+1)).cx i) (x := "longer") rX i.hr rfl (aF (pv (X:=(bB P w K mg base gG "all_orders" (ah dw) f (k+1)).cx i) (x := "longest") 2) (aF (pv (X:=(bB P w K mg base gG "all_orders" (ah dw) f (k+1)).cx i) (x := "many") 0) bu))))
   (jT (lQ (X:=(bB P w K mg base gG "all_orders" (ah dw) f (k+1)).cx i) (bmX (K:=K) rfl (me (X:=(bB P w K mg base gG "all_orders" (ah dw) f (k+1)).cx i) PySem.F.plainAttrs_list PySem.F.slot_list_extend PySem.F.type_list_extend Jc (pv (X:=(bB P w K mg base gG "all_orders" (ah dw) f (k+1)).cx i) (x := "told") 1) (aF (pv (X:=(bB P w K mg base gG "all_orders" (ah dw) f (k+1)).cx i) (x := "longest") 2) bu))))))
 intro D o3 H0 H a b ps qs sm td e0 hb hq e1 fin
 have big : 1000<sizeLine:=by decide
 refine V9 (hi:=(n:Int)) n (fun R h=>⟨_,rfl,h⟩) ⟨by omega,by omega⟩ (by omega) (fun i az H'=>∃ b o3 ps qs,az=[some (.int n),some (.ref a),some (.ref b),o3]/\ai H0 H'/\Told H0 H' a ps/\ps.map (·.2)=dZ n i/\H' b=some (.lst (qs.map fun p=>V.ref p.1))/\(∀ q ∈ qs,H' q.1=some (.lst (q.2.map V.int)))/\qs.map (·.2)=bX n i) ⟨b,o3,ps,qs,rfl,sm,td,e0,hb,hq,e1⟩ (fun i az H' hi z=>?_) (fun az H' z=>?_)
 ·obtain ⟨b,o3,ps,qs,rfl,sm,td,e0,hb,hq,e1⟩:=z
  obtain ⟨b1,b2⟩:=IB n (by omega) i (by omega)
  dsimp only [cZ,List.set,dU,i3]
  refine ⟨_,rfl,_,rfl,H',[.lst ((qs.map (·.2)).map dis),di n],iN (hW (bX n i) n),ai.refl _,⟨_,_,rfl,⟨b,_,rfl,aH.of hb,Kj hq⟩,⟨_,_,rfl,⟨rfl,rfl⟩,rfl⟩⟩,⟨bX n i,n,by rw [e1],b1,by omega,b2,rfl⟩,fun v G2 H2 fq aD ow nw=>?_⟩
  obtain ⟨b',mR,rfl,rfl,e3,EZ⟩:=BA (H0:=H') ow nw.n nw.d
  have ne:∀ x ∈ b'::mR.map (·.1),x ≠ a:=fun x hx z=>by
   have:=nw.n x hx
   rw [z,td.at_] at this
   cases this
  have l1:(ps.map fun p=>V.ref p.1).length<=65:=by
   have:=congrArg List.length e0
   rw [List.length_map] at this
   rw [List.length_map,this]
   exact A6 n hn i (by omega)
  have l2:(mR.map fun p=>V.ref p.1).length<=1000-65:=by
   have h1:=congrArg List.length e3
   have h2:=congrArg List.length (Lr n i)
   have h3:=A6 n hn (i+1) (by omega)
   rw [List.length_append] at h2
   have h4:(bX n (i+1)).length=(hW (bX n i) n).length:=rfl
   rw [List.length_map] at h1
   rw [List.length_map,h1]
   omega
  have a2:=aD.h _ _ td.at_
  refine ⟨_,rfl,.inl ⟨rfl,_,aH.of a2⟩,_,rfl,a,b',_,_,rfl,rfl,a2,EZ.at_,by omega,?_⟩
  have aat:∀ x ∈ b'::mR.map (·.1),H0 x=none:=fun x hx=>sm.free (nw.n x hx)
  have ER:ai H0 (upd H2 a (.lst ((ps.map fun p=>V.ref p.1)++mR.map fun p=>V.ref p.1))):=(sm.trans aD.h).upd (td.new a (.head _))
  have lh:=(List.nodup_cons.mp nw.d).2
  have E1:=List.nodup_cons.mp td.nd
  have NK:∀ p ∈ ps++mR,upd H2 a (.lst ((ps.map fun p=>V.ref p.1)++mR.map fun p=>V.ref p.1)) p.1=some (.lst (p.2.map V.int)):=fun p hp=>by
   rcases List.mem_append.mp hp with hp | hp
   ·have ne2:p.1 ≠ a:=fun z=>E1.1 (by rw [<- z];exact List.mem_map_of_mem hp)
    rw [aP ne2]
    exact aD.h _ _ (td.rows p hp)
   ·rw [aP (ne _ (.tail _ (List.mem_map_of_mem hp)))]
    exact EZ.rows p hp
  refine ⟨b',some (.int (0+i)),ps++mR,mR,rfl,ER,⟨?_,NK,?_,?_⟩,?_,?_,fun q hq=>NK q (List.mem_append_right _ hq),e3⟩
  ·rw [bE,List.map_append]
  ·rw [List.map_append]
   refine List.nodup_cons.mpr ⟨fun z=>?_,List.nodup_append.mpr ⟨E1.2,lh,fun x hx y hy z=>?_⟩⟩
   ·rcases List.mem_append.mp z with z | z
    ·exact E1.1 z
    ·exact ne a (.tail _ z) rfl
   ·subst z
    obtain ⟨p,hp,rfl⟩:=List.mem_map.mp hx
    have:=nw.n p.1 (.tail _ hy)
    rw [td.rows p hp] at this
    cases this
  ·intro x hx
   rcases List.mem_cons.mp hx with rfl | hx
   ·exact td.new x (.head _)
   ·rw [List.map_append] at hx
    rcases List.mem_append.mp hx with hx | hx
    ·exact td.new x (.tail _ hx)
    ·exact aat x (.tail _ hx)
  ·rw [List.map_append,e0,e3,Lr];rfl
  ·rw [aP (ne b' (.head _))]
   exact EZ.at_
 ·obtain ⟨b,o3,ps,qs,rfl,sm,td,e0,_⟩:=z
  exact fin _ _ _ ps sm td e0
def CW (dd:List Dv)(t:Tr):Prop:=∃ n:Nat,n<=4/\dd=[di n]/\t=iN (dZ n n)
theorem Sq {f f1:Addr}{fd aE:FuncData}{k:Nat}(F:bg K "all_orders" "all_orders" dw f fd)(T:Txt mg)(rX:Kn P w K mg base ao (k+1) "longer" f1 aE ["lists", "many"] (spT K sy)):aM P w K mg base ao (k+2) f fd ["many"] (spT K CW):=by
 refine bD F.d oO (fun dd t h=>by obtain ⟨n,_,rfl,_⟩:=h;rfl) fun dd t h=>?_
 obtain ⟨n,hn,rfl,rfl⟩:=h
 obtain ⟨tk,hg⟩:=T.oJ
 refine ⟨_,.inl rfl,?_⟩
 refine aw (dG (Et.s (Ew.et (mj (p:=false) (q:=false) (Et.to (kI (ae 0 rfl) ak) ?_) fun _=>lV (Et.to (mh (ae 0 rfl) (ng (v:=.int 4) hg ⟨_,rfl⟩ rfl)) ?_)))) rfl) ?_
 ·exact decide_eq_false (by omega)
 ·exact decide_eq_false (by omega)
 refine aw (aQ 1 (Ev.s (df (af (df aq (Nat.zero_le _)) aq) (by show 1<=sizeLine;decide))) (fun _=>oO.nd)) ?_
 refine aw (aQ 2 (Ev.s (df (af (df aq (Nat.zero_le _)) aq) (by show 1<=sizeLine;decide))) (fun _=>oO.nd)) ?_
 show bC _ [DN 3,DN 4] [some (ti n),some (iN [[]]),some (iN [[]]),none] _
 obtain ⟨τ,p,q⟩:=Y0 (P:=P) (w:=w) (base:=base) (f:=f) T rX hn
 refine ⟨dU τ (kN (bT 1)),fun i=>fm (p i) (jT (lU (pv (X:=(bB P w K mg base gG "all_orders" (ah dw) f (k+1)).cx i) (x := "told") 1))),fun D σ G0 H0 G H r post=>?_⟩
 obtain ⟨fp,r⟩:=r
 obtain ⟨v0,_,fa,_,rfl,rfl,⟨h00,h0⟩,v1,_,oy,_,rfl,rfl,E2,v2,_,oz,_,rfl,rfl,ow2,o3,_,rfl,rfl,rfl⟩:=r.own
 have hG:∀ x o,G0 x=some o->x ∉ fa++(oy++(oz++[])):=fun x o hx hm=>by
  have:=r.g x hm
  rw [r.st.g x o hx] at this
  cases this
 have hH:∀ x o,H0 x=some o->x ∉ fa++(oy++(oz++[])):=fun x o hx hm=>by
  have:=r.n x hm
  rw [hx] at this
  cases this
 have d0:=r.d
 obtain ⟨B,hB⟩:∃ B:Hp,B=fun x=>if x ∈ oy++oz then none else H x:=⟨_,rfl⟩
 have fa0:fa=[]:=h00
 rw [fa0,List.nil_append,List.append_nil] at d0 hG hH
 have n0:∀ x ∈ oy++oz,B x=none:=fun x hx=>by rw [hB];exact if_pos hx
 have sB:ai B H:=fun x o hx=>by
  rw [hB] at hx
  dsimp only at hx
  split at hx
  ·cases hx
  ·exact hx
 have gB:ai G0 B:=fun x o hx=>by rw [hB];exact (if_neg (hG x o hx)).trans (r.st.s _ _ (r.st.g _ _ hx))
 have oB:ai H0 B:=fun x o hx=>by rw [hB];exact (if_neg (hH x o hx)).trans (r.st.h _ _ hx)
 have nn:∀ x,B x=none->H0 x=none/\G0 x=none:=fun x hx=>⟨oB.free hx,gB.free hx⟩
 obtain ⟨d1,d2,d3⟩:=List.nodup_append.mp d0
 obtain ⟨a,ps,rfl,rfl,e1,td1⟩:=BA (H0:=B) E2 (fun x hx=>n0 x (List.mem_append_left _ hx)) d1
 obtain ⟨b,qs,rfl,rfl,e2,QD⟩:=BA (H0:=B) ow2 (fun x hx=>n0 x (List.mem_append_right _ hx)) d2
 rw [bf h0]
 refine q _ o3 B H a b ps qs sB td1 e1 QD.at_ QD.rows e2 fun o2 o3 H' dN sm td e3=>?_
 refine ⟨_,rfl,?_⟩
 refine post (.ref a) G0 H' (a::dN.map (·.1)) ⟨ai.refl _,oB.trans sm,gB.trans sm,fun a h h'=>absurd h h'⟩ ?_ ⟨fun x hx=>(nn x (td.new x hx)).1,fun x hx=>(nn x (td.new x hx)).2,td.nd⟩
 rw [<- e3]
 exact ⟨a,_,_,rfl,td.at_,Kk td.rows,rfl⟩
end
section
variable {P:Program}{w:World}{K:PySem.W.Frag}{mg:Str->Option Value}{base:Heap}
theorem lY (cs:List Int)(os:List (List Int)):bq [dis cs,.lst (os.map dis)] 1=some (.lst (os.map dis)):=rfl
theorem lZ (cs:List Int)(os:List (List Int)):bq [dis cs,.lst (os.map dis)] 0=some (dis cs):=rfl
abbrev oP:Stmt:=top 55
theorem RW:bj ["table", "asker"] ["table", "asker"] (ah oP):=⟨rfl,rfl,rfl,by decide +kernel,rfl,by decide +kernel,by decide +kernel⟩
def xm (dd:List Dv)(t:Tr):Prop:=∃ (cs:List Int) (os:List (List Int)) (n:Int),0<=n/\n<os.length/\dd=[aW cs os,di n]/\t=tn
theorem RX {f:Addr}{fd:FuncData}{k:Nat}(F:bg K "check_asker" "check_asker" oP f fd)(T:Txt mg):aM P w K mg base ao (k+1) f fd ["table", "asker"] (spT K xm):=by
 refine bD F.d RW (fun dd t h=>by obtain ⟨_,_,_,_,_,rfl,_⟩:=h;rfl) fun dd t h=>?_
 obtain ⟨cs,os,n,n0,n1,rfl,rfl⟩:=h
 refine ⟨_,.inr ⟨rfl,[some (.fz (aW cs os)),some (ti n)],rfl⟩,?_⟩
 refine aK (dG (Et.s (Ew.et (mj (p:=false) (q:=false) (Et.to (kI (ae 1 rfl) ak) (decide_eq_false (by omega))) fun _=>lV (Et.to (Zf (ae 1 rfl) (cu T.cg (aV (ae 0 rfl) ak rfl (lY cs os)) (.inl rfl))) (decide_eq_false (by rw [List.length_map];omega)))))) rfl)
abbrev nTO:List Str:=["table", "asker", "order", "orders"]
abbrev oA:Stmt:=top 56
theorem Ig:bj nTO ["table", "asker", "order"] (ah oA):=⟨rfl,rfl,rfl,by decide +kernel,rfl,by decide +kernel,by decide +kernel⟩
theorem UM (os:List (List Int))(n:Nat)(o:List Int):er (.ow (((os.map dis).map Tr.fz).set n (.fz (dis o))))=.lst ((os.set n o).map dis):=by
 rw [<- List.map_set,<- List.map_set,pS]
theorem Y1 {os:List (List Int)}{n:Int}(n0 : 0<=n)(n1:n<os.length):gv ((os.map dis).map Tr.fz).length n=some n.toNat:=by
 unfold gv
 rw [List.length_map,List.length_map,if_pos n0,if_pos (by omega)]
def QE (dd:List Dv)(t:Tr):Prop:=∃ (cs:List Int) (os:List (List Int)) (n:Int) (o:List Int),0<=n/\n<os.length/\bS cs (os.set n.toNat o)/\dd=[aW cs os,di n,dis o]/\t=.tp [aR cs,d9 (os.set n.toNat o)]
theorem RB {f f1 f2:Addr}{fd aE fd2:FuncData}{k:Nat}(F:bg K "told_otherwise" "told_otherwise" oA f fd)(T:Txt mg)(rn:Kn P w K mg base ao (k+1) "check_asker" f1 aE ["table", "asker"] (spT K xm))(TU:Kn P w K mg base ao (k+2) "table_of" f2 fd2 ["counts", "orders"] (spT K Oj)):aM P w K mg base ao (k+3) f fd ["table", "asker", "order"] (spT K QE):=by
 refine bD F.d Ig (fun dd t h=>by obtain ⟨_,_,_,_,_,_,_,rfl,_⟩:=h;rfl) fun dd t h=>?_
 obtain ⟨cs,os,n,o,n0,n1,ok,rfl,rfl⟩:=h
 refine ⟨_,.inl rfl,?_⟩
 refine aw (vK (Ev.s (aI rn (by show k+1<=k+2;omega) (af (ae 0 rfl) (af (ae 1 rfl) aq)) ⟨cs,os,n,n0,n1,rfl,rfl⟩))) ?_
 refine aw (aQ 3 (Ev.s (nh T.j7 (aV (ae 0 rfl) ak rfl (lY cs os)) (.inl rfl))) (fun _=>Ig.nd)) ?_
 refine aw (JM 3 (n:=n) (m:=n.toNat) (us:=(os.map dis).map Tr.fz) (t:=.fz (dis o)) rfl (Ev.s (ae 1 rfl)) (Y1 n0 n1) (Ev.s (ae 2 rfl)) (hps:=fun i=>Lz (pv 3) (wz i) set_list)) ?_
 refine Wn 3 rfl ?_
 rw [UM]
 show bC _ _ [some (.fz (aW cs os)),some (ti n),some (.fz (dis o)),some (.fz (.lst ((os.set n.toNat o).map dis)))] _
 exact aK (cf (Ev.s (aI TU (Nat.le_refl _) (af (aV (ae 0 rfl) ak rfl (lZ cs os)) (af (ae 3 rfl) aq)) ⟨cs,os.set n.toNat o,ok,rfl,rfl⟩)))
def uN (c:List Int)(os:List (List Int))(a:Int):List Int:=(aB (c.length+1)).map (tT (dm c os) a)
inductive Way (c:List Int) (os:List (List Int)) (a:Int):Str->Int->List Int->Prop
 |turns:os.length<=5->Way c os a "turns" (wT os) (uN c os a)
 |tU:Way c os a "meal" WM (ql c.length (fu c os) a)
theorem Way.row {c:List Int}{os:List (List Int)}{a:Int}{y:Str}{W:Int}{r:List Int}(ok:bS c os)(h:Way c os a y W r):kc W c.length r:=by
 cases h with
 |turns h5 =>
  have M:=Lg (c:=c) h5
  refine ⟨M.w0,M.w1,by unfold uN;rw [List.length_map,gI],fun t ht=>?_⟩
  obtain ⟨x,_,rfl⟩:=List.mem_map.mp ht
  have al:(dm c os).length=(bX os.length os.length).length:=by unfold dm;rw [List.length_map]
  have:=List.countP_le_length (p:=fun d=>decide (aL d a=x)) (l:=dm c os)
  unfold tT
  show _/\_<=((bX os.length os.length).length:Int)
  omega
 |tU =>
  have gF:=Ln ok
  have S:=A0 ok.c6 ok.cnt
  refine ⟨eM,lF,by unfold ql;rw [List.length_map,gI],fun t ht=>?_⟩
  obtain ⟨x,_,rfl⟩:=List.mem_map.mp ht
  have:=SK (steps:=fu c os) (fun s hs=>(Kh ok gF s hs).l0) a x
  have sm:((fu c os).map dY.len).sum=WM:=Kb gF 7 _ _ S
  rw [sm] at this
  exact this
theorem Kl (W:Int)(r:List Int):fE W r=.lst (r.map fun s=>dF (fW W s)):=by unfold fE;rw [List.map_map];rfl
abbrev m9:Stmt:=top 58
theorem rR:bj ["table", "asker", "way", "shares"] ["table", "asker", "way"] (ah m9):=⟨rfl,rfl,rfl,by decide +kernel,rfl,by decide +kernel,by decide +kernel⟩
def MJ (dd:List Dv)(t:Tr):Prop:=∃ (c:List Int) (os:List (List Int)) (a:Int) (y:Str) (W:Int) (r:List Int),bS c os/\0<=a/\a<os.length/\Way c os a y W r/\dd=[aW c os,di a,ds y]/\t=.fz (fE W r)
theorem UN {f f1 f2:Addr}{fd aE fd2:FuncData}{k:Nat}(F:bg K "row_at" "row_at" m9 f fd)(T:Txt mg)(Sr:Kn P w K mg base ao (k+7) "turn_shares" f1 aE ["table"] (spT K IC))(Y2:Kn P w K mg base ao (k+6) "meal" f2 fd2 ["table"] (spT K NI)):aM P w K mg base ao (k+8) f fd ["table", "asker", "way"] (spT K MJ):=by
 refine bD F.d rR (fun dd t h=>by obtain ⟨_,_,_,_,_,_,_,_,_,_,rfl,_⟩:=h;rfl) fun dd t h=>?_
 obtain ⟨c,os,a,y,W,r,ok,a0,a1,hw,rfl,rfl⟩:=h
 refine ⟨_,.inl rfl,?_⟩
 have gF:=Ln ok
 have key:∀ (g:Int->Dv),(∀ b,0<=b->b<os.length->g b=g b)->bq ((aB os.length).map g) a=some (g a):=fun g _=>by
  rw [show a=((a.toNat:Nat):Int) by omega]
  refine fL ?_
  unfold aB
  rw [List.map_map,List.getElem?_map,List.getElem?_range (by omega)]
  show some (g (0+((a.toNat:Nat):Int)))=_
  rw [Int.zero_add]
 cases hw with
 |turns h5 =>
  have e:er (yd (wT os) os.length c.length (dm c os))=.lst ((aB os.length).map fun b=>fE (wT os) (uN c os b)):=by
   unfold yd
   rw [fk]
   congr 1
   refine List.map_congr_left fun b _=>?_
   rw [fk,Kl]
   unfold uN
   rw [List.map_map];rfl
  refine aw (aQ 3 (Ev.s (M8 (Et.to (q:=true) (sM (u:=.str "turns") (v:=.str "turns") (ae 2 rfl) gK rfl) (decide_eq_true rfl)) (fun _=>Ev.as (aI Sr (Nat.le_refl _) (af (ae 0 rfl) aq) ⟨c,os,ok,h5,rfl,rfl⟩) e) (fun h=>by cases h))) (fun _=>rR.nd)) ?_
  exact aK (cf (Ev.s (dz (ae 3 rfl) (ae 1 rfl) rfl (key _ fun _ _ _=>rfl))))
 |tU =>
  have e:pP c.length (fu c os) os.length=.lst ((aB os.length).map fun b=>fE WM (ql c.length (fu c os) b)):=by
   unfold pP
   congr 1
   exact List.map_congr_left fun b _=>(Kl _ _).symm
  refine aw (aQ 3 (Ev.s (M8 (Et.to (q:=false) (sM (u:=.str "meal") (v:=.str "turns") (ae 2 rfl) gK rfl) (by decide +kernel)) (fun h=>by cases h) (fun _=>Ev.to (aV (d:=pP c.length (fu c os) os.length) (aI Y2 (by show k+6<=k+7;omega) (af (ae 0 rfl) aq) ⟨c,os,ok,gF,rfl,rfl⟩) ak rfl rfl) (by rw [e])))) (fun _=>rR.nd)) ?_
  exact aK (cf (Ev.s (dz (ae 3 rfl) (ae 1 rfl) rfl (key _ fun _ _ _=>rfl))))
def tD (W:Int)(t1 t2 full:List Int):Str:=if cN (fE W t2) (fE W t1)=true then "same" else if tq t1 t2 full=true then "worse" else if tq t2 t1 full=true then "better" else "other"
abbrev ph:Stmt:=top 59
theorem Ti:bj ["table", "asker", "first", "new"] ["table", "asker", "first", "new"] (ah ph):=⟨rfl,rfl,rfl,by decide +kernel,rfl,by decide +kernel,by decide +kernel⟩
def NM (dd:List Dv)(t:Tr):Prop:=∃ (c:List Int) (os:List (List Int)) (a:Int) (o:List Int) (W:Int) (t1 t2:List Int),c.length<=6/\o.length<=6/\(∀ x ∈ o,0<=x/\x<c.length)/\bq os a=some o/\kc W c.length t1/\kc W c.length t2/\dd=[aW c os,di a,fE W t1,fE W t2]/\t=tx (tD W t1 t2 (bb c.length o))
theorem MK (W:Int)(r:List Int):dI (fE W r)<=50:=Nat.le_trans (KN (n:=1) fun d hd=>by
 obtain ⟨p,_,rfl⟩:=List.mem_map.mp hd
 exact MA p) (by decide)
theorem Tj {f f1:Addr}{fd aE:FuncData}{k:Nat}(F:bg K "word_for" "word_for" ph f fd)(T:Txt mg)(vm:Kn P w K mg base ao (k+5) "as_good" f1 aE ["table", "asker", "one", "other"] (spT K NB)):aM P w K mg base ao (k+6) f fd ["table", "asker", "first", "new"] (spT K NM):=by
 refine bD F.d Ti (fun dd t h=>by obtain ⟨_,_,_,_,_,_,_,_,_,_,_,_,_,rfl,_⟩:=h;rfl) fun dd t h=>?_
 obtain ⟨c,os,a,o,W,t1,t2,c6,o6,kS,jL,k1,k2,rfl,rfl⟩:=h
 refine ⟨_,.inl rfl,?_⟩
 unfold tD
 by_cases h0:cN (fE W t2) (fE W t1)=true
 ·rw [if_pos h0]
  exact vJ (nr (Et.s (BP (ae 3 rfl) (ae 2 rfl) (.inl ⟨_,_,rfl,rfl⟩) (MK W t2))) h0 (aK (cf (Ev.s gK))))
 ·rw [if_neg h0]
  refine aw (dG (Et.s (BP (ae 3 rfl) (ae 2 rfl) (.inl ⟨_,_,rfl,rfl⟩) (MK W t2))) (by show cN (fE W t2) (fE W t1)=false;simpa using h0)) ?_
  by_cases h1:tq t1 t2 (bb c.length o)=true
  ·rw [if_pos h1]
   exact vJ (nr (Et.s (j5 (aI vm (Nat.le_refl _) (af (ae 0 rfl) (af (ae 1 rfl) (af (ae 2 rfl) (af (ae 3 rfl) aq)))) ⟨c,os,a,o,W,t1,t2,c6,o6,kS,jL,k1,k2,rfl,rfl⟩))) h1 (aK (cf (Ev.s gK))))
  ·rw [if_neg h1]
   refine aw (dG (Et.s (j5 (aI vm (Nat.le_refl _) (af (ae 0 rfl) (af (ae 1 rfl) (af (ae 2 rfl) (af (ae 3 rfl) aq)))) ⟨c,os,a,o,W,t1,t2,c6,o6,kS,jL,k1,k2,rfl,rfl⟩))) (by simpa using h1)) ?_
   by_cases h2:tq t2 t1 (bb c.length o)=true
   ·rw [if_pos h2]
    exact vJ (nr (Et.s (j5 (aI vm (Nat.le_refl _) (af (ae 0 rfl) (af (ae 1 rfl) (af (ae 3 rfl) (af (ae 2 rfl) aq)))) ⟨c,os,a,o,W,t2,t1,c6,o6,kS,jL,k2,k1,rfl,rfl⟩))) h2 (aK (cf (Ev.s gK))))
   ·rw [if_neg h2]
    exact aw (dG (Et.s (j5 (aI vm (Nat.le_refl _) (af (ae 0 rfl) (af (ae 1 rfl) (af (ae 3 rfl) (af (ae 2 rfl) aq)))) ⟨c,os,a,o,W,t2,t1,c6,o6,kS,jL,k2,k1,rfl,rfl⟩))) (by simpa using h2)) (aK (cf (Ev.s gK)))
end
section
variable {P:Program}{w:World}{K:PySem.W.Frag}{mg:Str->Option Value}{base:Heap}
theorem ZK:∀ n,n<=4->∀ o ∈ dZ n n,o.Nodup/\∀ x ∈ o,0<=x/\x<(n:Int):=by
 have:∀ n:Fin 5,((dZ n.val n.val).all fun o=>decide o.Nodup&&o.all fun x=>decide (0<=x/\x<(n.val:Int)))=true:=by decide +kernel
 intro n hn o ho
 have:=List.all_eq_true.mp (this ⟨n,by omega⟩) o ho
 rw [Bool.and_eq_true,decide_eq_true_eq,List.all_eq_true] at this
 exact ⟨this.1,fun x hx=>of_decide_eq_true (this.2 x hx)⟩
theorem Y3 {c:List Int}{os:List (List Int)}(ok:bS c os){a:Nat}{o:List Int}(nd:o.Nodup)(cB:∀ x ∈ o,0<=x/\x<c.length):bS c (os.set a o):=by
 refine ⟨ok.c6,ok.cnt,by rw [List.length_set];exact ok.o1,by rw [List.length_set];exact ok.o6,fun o' h=>?_,fun o' h=>?_⟩
 ·rcases List.mem_or_eq_of_mem_set h with z | rfl
  ·exact ok.nd o' z
  ·exact nd
 ·rcases List.mem_or_eq_of_mem_set h with z | rfl
  ·exact ok.cB o' z
  ·exact cB
def uO (y:Str)(c:List Int)(os:List (List Int))(a:Int):List Int:=if y=("turns" : Str) then uN c os a else ql c.length (fu c os) a
theorem Way.set {c:List Int}{os:List (List Int)}{a:Int}{y:Str}{W:Int}{r:List Int}(h:Way c os a y W r)(n:Nat)(o:List Int):Way c (os.set n o) a y W (uO y c (os.set n o) a):=by
 unfold uO
 cases h with
 |turns h5 =>
  rw [if_pos rfl,show wT os=wT (os.set n o) by unfold wT;rw [List.length_set]]
  exact .turns (by rw [List.length_set];exact h5)
 |tU =>
  rw [if_neg (by decide +kernel)]
  exact .tU
def tV (y:Str)(W:Int)(r c:List Int)(os:List (List Int))(a:Int)(o:List Int):Dv:=.tup [dis o,ds (tD W r (uO y c (os.set a.toNat o) a) (bb c.length (os.getD a.toNat [])))]
abbrev nLI:List Str:=["table", "asker", "way", "orders", "first", "told", "order", "new"]
abbrev ie:Stmt:=top 60
theorem jY:bj nLI ["table", "asker", "way"] (ah ie):=⟨rfl,rfl,rfl,by decide +kernel,rfl,by decide +kernel,by decide +kernel⟩
def CY (dd:List Dv)(t:Tr):Prop:=∃ (c:List Int) (os:List (List Int)) (a:Int) (y:Str) (W:Int) (r:List Int),bS c os/\c.length<=4/\0<=a/\a<os.length/\Way c os a y W r/\dd=[aW c os,di a,ds y]/\t=.ow ((dZ c.length c.length).map fun o=>.fz (tV y W r c os a o))
theorem XC {f f1 f2 f3 f4 f5:Addr}{fd aE fd2 fJ uM qZ:FuncData}{k:Nat}{dv:Value}(F:iw K "lies" "lies" ie dv f fd)(T:Txt mg)(zI:Kn P w K mg base ao (k+2) "all_orders" f1 aE ["many"] (spT K CW))(rn:Kn P w K mg base ao (k+1) "check_asker" f2 fd2 ["table", "asker"] (spT K xm))(Km:Kn P w K mg base ao (k+8) "row_at" f3 fJ ["table", "asker", "way"] (spT K MJ))(RC:Kn P w K mg base ao (k+3) "told_otherwise" f4 uM ["table", "asker", "order"] (spT K QE))(TV:Kn P w K mg base ao (k+6) "word_for" f5 qZ ["table", "asker", "first", "new"] (spT K NM)):aM P w K mg base ao (k+9) f fd ["table", "asker", "way"] (spT K CY):=by
 refine bD F jY (fun dd t h=>by obtain ⟨_,_,_,_,_,_,_,_,_,_,_,rfl,_⟩:=h;rfl) fun dd t h=>?_
 obtain ⟨c,os,a,y,W,r,ok,c4,a0,a1,hw,rfl,rfl⟩:=h
 refine ⟨_,.inl rfl,?_⟩
 have big : 1000<sizeLine:=by decide
 have c6:=ok.c6
 have rr:=hw.row ok
 have lvl:=A6 c.length c4 c.length (Nat.le_refl _)
 have QF:=ZK c.length c4
 obtain ⟨o1,qU⟩:∃ o1,os[a.toNat]?=some o1:=⟨_,List.getElem?_eq_getElem (by omega)⟩
 have QG:=List.mem_of_getElem? qU
 have og:os.getD a.toNat []=o1:=by rw [List.getD_eq_getElem?_getD,qU];rfl
 have jL:bq os a=some o1:=by
  rw [show a=((a.toNat:Nat):Int) by omega]
  exact fL qU
 refine aw (aQ 3 (Ev.s (Ev.as (d:=.lst ((dZ c.length c.length).map dis)) (aI zI (by show k+2<=k+8;omega) (af (cu T.cg (aV (ae 0 rfl) ak rfl (lZ c os)) (.inl rfl)) aq) ⟨c.length,c4,by rw [List.length_map];rfl,rfl⟩) (wc _))) (fun _=>jY.nd)) ?_
 refine aw (vK (Ev.s (aI rn (by show k+1<=k+8;omega) (af (ae 0 rfl) (af (ae 1 rfl) aq)) ⟨c,os,a,a0,a1,rfl,rfl⟩))) ?_
 refine aw (aQ 4 (Ev.s (aI Km (Nat.le_refl _) (af (ae 0 rfl) (af (ae 1 rfl) (af (ae 2 rfl) aq))) ⟨c,os,a,y,W,r,ok,a0,a1,hw,rfl,rfl⟩)) (fun _=>jY.nd)) ?_
 refine aw (aQ 5 (ck.to (t':=.ow (((dZ c.length c.length).take 0).map fun o=>.fz (tV y W r c os a o))) (Ev.s (df aq (Nat.zero_le _))) rfl) (fun _=>jY.nd)) ?_
 generalize dZ c.length c.length=L at lvl QF
 refine aw (jk (bJ.s (dD (ae 3 rfl) rfl)) (cm 6 (fun _=>jY.nd)) (fun j=>[some (.fz (aW c os)),some (ti a),some (tx y),some (.fz (.lst (L.map dis))),some (.fz (fE W r)),some (.ow ((L.take j).map fun o=>.fz (tV y W r c os a o))),none,none]) rfl (fun _=>rfl) (fun j d hd=>?_)) ?_
 ·obtain ⟨o,ho,rfl⟩:=iV hd
  obtain ⟨nd,cB⟩:=QF o (List.mem_of_getElem? ho)
  have lH:=Y3 ok (a:=a.toNat) nd cB
  have QH:=hw.set a.toNat o
  have rr2:=QH.row lH
  have jl:(L.take j).length<=65:=by rw [List.length_take];omega
  have et:er (.tp [aR c,d9 (os.set a.toNat o)])=aW c (os.set a.toNat o):=by
   show Dv.tup [er _,er _]=_
   rw [gf,JP];rfl
  refine ⟨_,_,rfl,aw (aQ 7 (Ev.s (aI Km (Nat.le_refl _) (af (Ev.as (aI RC (by show k+3<=k+8;omega) (af (ae 0 rfl) (af (ae 1 rfl) (af (ae 6 rfl) aq))) ⟨c,os,a,o,a0,a1,lH,rfl,rfl⟩) et) (af (ae 1 rfl) (af (ae 2 rfl) aq))) ⟨c,os.set a.toNat o,a,y,W,_,lH,a0,by rw [List.length_set];exact a1,QH,rfl,rfl⟩)) (fun _=>jY.nd)) (aK (rL 5 rfl (Ev.s (vG (dd:=[dis o,ds (tD W r (uO y c (os.set a.toNat o) a) (bb c.length o1))]) (af (ae 6 rfl) (af (aI TV (by show k+6<=k+8;omega) (af (ae 0 rfl) (af (ae 1 rfl) (af (ae 4 rfl) (af (ae 7 rfl) aq)))) ⟨c,os,a,o1,W,r,_,c6,ok.iB QG,ok.cB o1 QG,jL,rr,rr2,rfl,rfl⟩) aq)) rfl (by show 2<=sizeLine;decide))) (by rw [List.length_map];omega))),[6,7],?_⟩
  rw [jR ho,List.map_append]
  show [_,_,_,_,_,some (Tr.ow (_++[Tr.fz (Dv.tup [dis o,ds (tD W r (uO y c (os.set a.toNat o) a) (bb c.length o1))])])),_,_]=[_,_,_,_,_,some (Tr.ow (_++[Tr.fz (tV y W r c os a o)])),_,_]
  unfold tV
  rw [og]
 ·rw [List.length_map,List.take_length]
  exact aK (kD 5 rfl)
end
section
variable {P:Program}{w:World}{K:PySem.W.Frag}{mg:Str->Option Value}{base:Heap}
def ML (c:e7)(dd:List Dv)(Ξ:nO):Prop:=∃ n:Int,4<n/\dd=[di n]/\Ξ=fun G H E=>jg G H c.ft E
theorem RY {f:Addr}{fd:FuncData}{k:Nat}{c:e7}(F:bg K "all_orders" "all_orders" dw f fd)(T:Txt mg)(U:tu K mg c):aM P w K mg base (cn P w) (k+1) f fd ["many"] (cD K (ML c)):=by
 refine pL F.d oO (fun dd Ξ h=>by obtain ⟨_,_,rfl,_⟩:=h;rfl) fun dd Ξ h=>?_
 obtain ⟨n,hn,rfl,rfl⟩:=h
 obtain ⟨tk,hg⟩:=T.oJ
 refine Ms (cX.to (q:=true) (Et.s (Ew.et (mj (p:=false) (q:=true) (Et.to (kI (ae 0 rfl) ak) ?_) fun _=>lV (Et.to (mh (ae 0 rfl) (ng (v:=.int 4) hg ⟨_,rfl⟩ rfl)) ?_)))) rfl) (uD.g (Jp U.mX U.pd))
 ·exact decide_eq_false (by omega)
 ·exact decide_eq_true (by omega)
def NN (c:e7)(dd:List Dv)(Ξ:nO):Prop:=∃ (cs:List Int) (os:List (List Int)) (a:Int),5<os.length/\dd=[aW cs os,di a,ds "turns"]/\Ξ=fun G H E=>jg G H c.ft E
theorem TX {f f1:Addr}{fd aE:FuncData}{k:Nat}{c:e7}(F:bg K "row_at" "row_at" m9 f fd)(T:Txt mg)(RZ:Kn P w K mg base (cn P w) (k+7) "turn_shares" f1 aE ["table"] (cD K (wM c))):aM P w K mg base (cn P w) (k+8) f fd ["table", "asker", "way"] (cD K (NN c)):=by
 refine pL F.d rR (fun dd Ξ h=>by obtain ⟨_,_,_,_,rfl,_⟩:=h;rfl) fun dd Ξ h=>?_
 obtain ⟨cs,os,a,hn,rfl,rfl⟩:=h
 exact UA (jn:=0) (cX.to (q:=true) (Et.s (sM (u:=.str "turns") (v:=.str "turns") (ae 2 rfl) gK rfl)) (decide_eq_true rfl)) RZ (Nat.le_refl _) (af (ae 0 rfl) aq) ⟨cs,os,hn,rfl,rfl⟩ sx rR.nd 3
def Ct (c:e7)(dd:List Dv)(Ξ:nO):Prop:=∃ (cs:List Int) (os:List (List Int)) (a:Int) (y:Str),0<=a/\a<os.length/\(4<cs.length\/(cs.length<=4/\y = "turns" /\ 5<os.length))/\dd=[aW cs os,di a,ds y]/\Ξ=fun G H E=>jg G H c.ft E
theorem VP {f f1 f2 f3:Addr}{fd aE fd2 fJ:FuncData}{k:Nat}{c:e7}{dv:Value}(F:iw K "lies" "lies" ie dv f fd)(T:Txt mg)(zI:Kn P w K mg base ao (k+2) "all_orders" f1 aE ["many"] (spT K CW))(Ss:Kn P w K mg base (cn P w) (k+1) "all_orders" f1 aE ["many"] (cD K (ML c)))(rn:Kn P w K mg base ao (k+1) "check_asker" f2 fd2 ["table", "asker"] (spT K xm))(UO:Kn P w K mg base (cn P w) (k+8) "row_at" f3 fJ ["table", "asker", "way"] (cD K (NN c))):aM P w K mg base (cn P w) (k+9) f fd ["table", "asker", "way"] (cD K (Ct c)):=by
 refine pL F jY (fun dd Ξ h=>by obtain ⟨_,_,_,_,_,_,_,rfl,_⟩:=h;rfl) fun dd Ξ h=>?_
 obtain ⟨cs,os,a,y,a0,a1,h,rfl,rfl⟩:=h
 rcases h with h | ⟨c4,rfl,h5⟩
 ·exact Bo (jn:=0) Ss (by omega) (af (cu T.cg (aV (ae 0 rfl) ak rfl (lZ cs os)) (.inl rfl)) aq) ⟨_,by rw [List.length_map];omega,rfl,rfl⟩ sx jY.nd 3
 ·refine JW (aQ 3 (Ev.s (Ev.as (d:=.lst ((dZ cs.length cs.length).map dis)) (aI zI (by show k+2<=k+8;omega) (af (cu T.cg (aV (ae 0 rfl) ak rfl (lZ cs os)) (.inl rfl)) aq) ⟨cs.length,c4,by rw [List.length_map];rfl,rfl⟩) (wc _))) (fun _=>jY.nd)) ?_
  refine JW (vK (Ev.s (aI rn (by show k+1<=k+8;omega) (af (ae 0 rfl) (af (ae 1 rfl) aq)) ⟨cs,os,a,a0,a1,rfl,rfl⟩))) ?_
  exact Bo (jn:=0) UO (Nat.le_refl _) (af (ae 0 rfl) (af (ae 1 rfl) (af (ae 2 rfl) aq))) ⟨cs,os,a,h5,rfl,rfl⟩ sx jY.nd 4
abbrev E3:List Str:=["_law_table_here", "_law_asker", "_law_way", "_law_some", "_law_e"]
abbrev jO:Stmt:=top 66
theorem rm:bj E3 ["_law_table_here", "_law_asker", "_law_way"] (ah jO):=⟨rfl,rfl,rfl,by decide +kernel,rfl,by decide +kernel,by decide +kernel⟩
theorem XD {f f2:Addr}{fd2:FuncData}{k:Nat}{c:e7}(qm:EY P w K mg base 1 "_law_classes" f2 fd2 ["_law_e"] (wL K mg c))(t0 t1 t2:Tr){N:Addr}{b0 b1:Bool}(X:wK K c N b0 b1) :
  ∃ th:Addr->TS,(∀ q a,cL (((bB P w K mg base E3 "_law_refusal" (ah jO) f (k+1)).cx q).suite (.ref a)) (aaq ((aN jO).getD 1 (.Pass ⟨0,0,0,0⟩))) (th a))/\∀ (E:Ends) σ G0 H0 G H a,RS K G0 H0 G H [some t0,some t1,some t2,some (.ow []),none] σ->σ[4]?=some (some (.ref a))->H a=some (i7 a N none)->(∀ az G' H',RS K G0 H0 G' H' [some t0,some t1,some t2,some (aR (iO (kj b0 b1) 14)),none] az->E.nx az H')->th a E σ H:=by
 refine ⟨fun a=>i3 (Mr (wL K mg c a) (bY (bT 4) cI)) (cZ 3),fun q a=>jT (ji (i:=3) rm.nd rfl (Or.inl rfl) (Vs (x:=a) qm.ok rfl ((q.hr.h _).mono (by omega)) rfl qm.mL qm.kp qm.bd (aF (pv (x := "_law_e") 4) bu))),fun E σ G0 H0 G H a r qQ he kk=>?_⟩
 obtain ⟨fp,r⟩:=r
 have ln : σ.length=5:=by rw [<- r.own.len];rfl
 obtain ⟨s0,s1,s2,s3,s4,rfl⟩:∃ s0 s1 s2 s3 s4,σ=[s0,s1,s2,s3,s4]:=by
  match σ,ln with
  |[s0,s1,s2,s3,s4],_=>exact ⟨s0,s1,s2,s3,s4,rfl⟩
 have e5:s4=some (.ref a):=Option.some.inj qQ
 subst e5
 refine ⟨_,rfl,N,none,b0,b1,rfl,he,X,fun l H1 sm hl EX=>?_⟩
 exact kk _ G _ (r.set (j:=3) (t:=aR (iO (kj b0 b1) 14)) (v:=.ref l) (fq:=[l]) (by show 3<5;decide) ⟨ai.refl _,sm,r.st.s.trans sm,fun a h h'=>absurd h h'⟩ ⟨l,_,[],rfl,EX,Al _,rfl⟩ ⟨fun x hx=>by rw [List.mem_singleton.mp hx];exact hl,fun x hx=>by rw [List.mem_singleton.mp hx];exact r.st.s.free hl,List.nodup_cons.mpr ⟨(fun z=>nomatch z),.nil⟩⟩)
def DP (dd:List Dv)(t:Tr):Prop:=∃ (cs:List Int) (os:List (List Int)) (a:Int) (y:Str),0<=a/\a<os.length/\((4<cs.length/\(y = "" \/ y = "meal" \/ y = "turns"))\/(cs.length<=4/\y = "turns" /\ 5<os.length))/\dd=[aW cs os,di a,ds y]/\t=aR [1,13]
theorem RN {f f1 f2:Addr}{fd aE fd2:FuncData}{k:Nat}{c:e7}{tk:Tok}(F:bg K "_law_refusal" "_law_refusal" jO f fd)(T:Txt mg)(U:tu K mg c)(Cu:Kn P w K mg base ao (k+9) "lies" f1 aE ["table", "asker", "way"] (spT K CY))(B1:Binds K aE ["table", "asker", "way"] [.str "meal" tk])(BC:Kn P w K mg base (cn P w) (k+9) "lies" f1 aE ["table", "asker", "way"] (cD K (Ct c)))(qm:EY P w K mg base 1 "_law_classes" f2 fd2 ["_law_e"] (wL K mg c)):aM P w K mg base ao (k+10) f fd ["_law_table_here", "_law_asker", "_law_way"] (spT K DP):=by
 refine bD F.d rm (fun dd t h=>by obtain ⟨_,_,_,_,_,_,_,rfl,_⟩:=h;rfl) fun dd t h=>?_
 obtain ⟨cs,os,a,y,a0,a1,h,rfl,rfl⟩:=h
 refine ⟨_,.inl rfl,?_⟩
 refine aw (aQ 3 (Ev.s (df aq (Nat.zero_le _))) (fun _=>rm.nd)) ?_
 show bC _ _ [some (.fz (aW cs os)),some (ti a),some (tx y),some (.ow []),none] _
 obtain ⟨th,qV,hs⟩:=XD (f:=f) (k:=k+8) qm (.fz (aW cs os)) (ti a) (tx y) U.zZ
 have no:∀ (z:Str),z ≠ "" -> Ct c [aW cs os,di a,ds z] (fun G H E=>jg G H c.ft E)->y=z->bC (bB P w K mg base E3 "_law_refusal" (ah jO) f (k+9)) ((aN jO).drop 1) [some (.fz (aW cs os)),some (ti a),some (tx y),some (.ow []),none] (.rt (aR [1,13])):=by
  rintro z hz hR rfl
  refine aw (JX (C:=c.ft) (W:=fun H x=>H x=some (i7 x c.ft none)) (Ξ:=fun G H E=>jg G H c.ft E) (th:=th) (ρ':=[some (.fz (aW cs os)),some (ti a),some (tx y),some (aR (iO (kj _ _) 14)),none]) U.cat 4 false (cX.to (q:=false) (Et.s (sM (u:=.str y) (v:=.str "") (ae 2 rfl) gK rfl)) (decide_eq_false fun e=>hz (by injection e))) rfl BC (dvs:=[]) (dd:=[]) BC.bd .nil (fun G=>rfl) (Nat.le_refl _) (af (ae 0 rfl) (af (ae 1 rfl) (af (ae 2 rfl) aq))) hR Ld U.zZ.s rfl rfl qV hs (fun _=>rm.nd)) ?_
  exact aK (kD 3 rfl)
 rcases h with ⟨h4,hy⟩ | ⟨c4,hy,h5⟩
 ·rcases hy with rfl | rfl | rfl
  ·refine aw (JX (C:=c.ft) (W:=fun H x=>H x=some (i7 x c.ft none)) (Ξ:=fun G H E=>jg G H c.ft E) (th:=th) (ρ':=[some (.fz (aW cs os)),some (ti a),some (tx ""),some (aR (iO (kj _ _) 14)),none]) (dvs:=[.str "meal"]) (dd:=[ds "meal"]) U.cat 4 true (cX.to (q:=true) (Et.s (sM (u:=.str "") (v:=.str "") (ae 2 rfl) gK rfl)) (decide_eq_true rfl)) rfl BC B1 (.cons ⟨tk,rfl⟩ .nil) (fun G=>⟨_,_,rfl,⟨rfl,rfl⟩,rfl⟩) (Nat.le_refl _) (af (ae 0 rfl) (af (ae 1 rfl) aq)) ⟨cs,os,a, "meal",a0,a1,.inl h4,rfl,rfl⟩ Ld U.zZ.s rfl rfl qV hs (fun _=>rm.nd)) ?_
   exact aK (kD 3 rfl)
  ·exact no "meal" (by decide +kernel) ⟨cs,os,a, "meal",a0,a1,.inl h4,rfl,rfl⟩ rfl
  ·exact no "turns" (by decide +kernel) ⟨cs,os,a, "turns",a0,a1,.inl h4,rfl,rfl⟩ rfl
 ·subst hy
  exact no "turns" (by decide +kernel) ⟨cs,os,a, "turns",a0,a1,.inr ⟨c4,rfl,h5⟩,rfl,rfl⟩ rfl
end
section
variable {P:Program}{w:World}{K:PySem.W.Frag}{mg:Str->Option Value}{base:Heap}
theorem VQ {ι:Type}{F:aY ι}{ρ:En}{st:Stmt}{e:Expr}(j:Nat){cs:List Int}{os:List (List Int)}{o:List Int}(h : ρ[j]?=some (some (.tp [aR cs,d9 os])))(he:ck F e ρ (aR o))(hz:os.length<sizeLine)(hps:∀ τ:TE,(∀ i,PE (F.cx i) e τ)->∀ i,PS (F.cx i) st (gL (jz F.K "list" sf (iF (tH F.K) (bT j) (tC (.int 1))) (bY τ cI)))):Rn F st ρ (.nx (ρ.set j (some (.tp [aR cs,d9 (os++[o])])))):=by
 obtain ⟨τ,y,z⟩:=he
 refine ⟨_,hps τ y,fun D σ G0 H0 G H r k=>?_⟩
 obtain ⟨fp,r⟩:=r
 obtain ⟨v,f,s1,o1,_,nd,_,_⟩:=r.chg h (.refl r.st.s)
 obtain ⟨p,a,b,ps,rfl,rfl,hp,ha,hb,rfl,hps⟩:=B7 o1
 refine ⟨_,s1,p,_,1,.ref b,rfl,rfl,cM.of hp,rfl,.inl ⟨rfl,_,aH.of hb⟩,?_⟩
 refine z σ G H fp _ r.st.s r.own r.g fun v1 G1 H1 f1 yb E2 w1=>?_
 obtain ⟨v',f',ux,_,o2,xR,aau,q⟩:=r.chg h yb
 rw [s1] at ux
 cases ux
 obtain ⟨p',a',b',dN,e1,rfl,xG,ha',eI,e3,aav⟩:=B7 o2
 cases e1
 have t1:=yb.h _ _ hp
 rw [xG] at t1
 cases t1
 obtain ⟨l,vs,fl,rfl,hl,ol,rfl⟩:=E2
 obtain ⟨rfl,rfl⟩:=vN ol
 have nl:∀ x ∈ p::a::b::dN.map (·.1),x ≠ l:=fun x hx e=>by
  obtain ⟨u,hu⟩:=r.own.there x (aau x hx)
  rw [e,w1.n l (.head _)] at hu
  cases hu
 have n1:=List.nodup_cons.mp xR
 have n2:=List.nodup_cons.mp n1.2
 have n3:=List.nodup_cons.mp n2.2
 have pb:p ≠ b:=fun z=>n1.1 (z ▸ .tail _ (.head _))
 have ab:a ≠ b:=fun z=>n2.1 (z ▸ .head _)
 have dX:(dN.map fun p=>V.ref p.1).length<sizeLine:=by
  have:=congrArg List.length e3
  rw [List.length_map,List.length_map] at this
  rw [List.length_map] at hz ⊢
  omega
 refine ⟨b,_,.ref l,rfl,rfl,eI,dX,k σ G1 _ ?_⟩
 rw [<- e3]
 have hq:=q b (.lst ((dN.map fun p=>V.ref p.1)++[V.ref l])) (.tp [aR cs,d9 ((dN++[(l,o)]).map (·.2))]) (p::a::b::(dN++[(l,o)]).map (·.1)) (.tail _ (.tail _ (.head _))) (Mt (by rw [aP pb];exact xG) (by rw [aP ab];exact ha') (by rw [bE,List.map_append];rfl) fun x hx=>?_) ?_ fun x hx=>?_
 ·rw [List.map_append] at hq
  exact hq
 ·rcases List.mem_append.mp hx with hx | hx
  ·rw [aP (show x.1 ≠ b from fun z=>n3.1 (z ▸ List.mem_map_of_mem (f:=(·.1)) hx))]
   exact aav x hx
  ·rw [List.mem_singleton.mp hx]
   show upd H1 b _ l=_
   rw [aP fun z=>nl b (.tail _ (.tail _ (.head _))) z.symm]
   exact hl
 ·rw [List.map_append]
  show (p::a::b::(dN.map (·.1)++[l])).Nodup
  have:(p::a::b::dN.map (·.1)++[l]).Nodup:=List.nodup_append.mpr ⟨xR,List.nodup_cons.mpr ⟨(fun z=>nomatch z),.nil⟩,fun x hx y hy e=>nl x hx (by rw [e,List.mem_singleton.mp hy])⟩
  exact this
 ·rw [List.map_append] at hx
  have hx:x ∈ (p::a::b::dN.map (·.1))++[l]:=hx
  rcases List.mem_append.mp hx with hx | hx
  ·exact .inl hx
  ·right
   rw [List.mem_singleton.mp hx]
   exact ⟨w1.n l (.head _),w1.g l (.head _)⟩
theorem XF {ι:Type}{F:aY ι}{ρ:En}{pos:Pos}{e:Expr}(j:Nat){x:Str}{t t2:Tr}{px pt:Pos}{kt}(he:ck F e ρ t)(h : ρ[j]?=some (some t2))(hps:∀ τ:TE,(∀ i,PE (F.cx i) e τ)->∀ i,PS (F.cx i) (.Return (some (.Tuple [e,.Name x px] kt pt)) pos) (kN (nI (bY τ (bY (bT j) cI))))) :
  Rn F (.Return (some (.Tuple [e,.Name x px] kt pt)) pos) ρ (.rt (.tp [t,t2])):=by
 obtain ⟨τ,y,z⟩:=he
 refine ⟨_,hps τ y,fun D σ G0 H0 G H r k=>?_⟩
 obtain ⟨fp,r⟩:=r
 refine z σ G H fp _ r.st.s r.own r.g fun v1 G1 H1 f1 s1 o1 w1=>?_
 have r1:du F.K G0 H0 G1 H1 ρ σ fp:=⟨r.st.trans s1,r.own.mono s1.g s1.h,r.own.off s1 r.g,r.n,r.d⟩
 obtain ⟨v,f,fr,q1,q2,q3,q4⟩:=r1.own.split h
 have sub:∀ a ∈ f,a ∈ fp:=fun a ha=>q4.mem_iff.mpr (List.mem_append_left _ ha)
 have ZL:∀ a ∈ f1,a ∉ f:=fun a ha hf=>by
  obtain ⟨u,hu⟩:=r.own.there a (sub a hf)
  rw [w1.n a ha] at hu;cases hu
 refine ⟨v,q1,by show 2<=sizeLine;decide,fun p hp=>?_⟩
 have pf:p ∉ f:=fun z=>by
  obtain ⟨u,hu⟩:=r1.own.there p (sub p z)
  rw [hp] at hu;cases hu
 have QI:p ∉ f1:=fun z=>by
  obtain ⟨u,hu⟩:=o1.there p z
  rw [hp] at hu;cases hu
 refine k (.ref p) G1 _ (p::(f1++(f++[]))) (r1.st.trans (.gO r1.st.s hp)) ⟨p,_,_,rfl,bE,⟨v1,_,f1,_,rfl,rfl,o1.frame QI,v,[],f,[],rfl,rfl,q2.frame pf,rfl,rfl⟩,rfl⟩ ⟨fun a ha=>?_,fun a ha=>?_,List.nodup_cons.mpr ⟨?_,?_⟩⟩
 ·rw [List.append_nil] at ha
  rcases List.mem_cons.mp ha with rfl | z
  ·exact r1.st.h.free hp
  ·rcases List.mem_append.mp z with z | z
   ·exact r.st.h.free (w1.n a z)
   ·exact r.n a (sub a z)
 ·rw [List.append_nil] at ha
  rcases List.mem_cons.mp ha with rfl | z
  ·exact r1.st.s.free hp
  ·rcases List.mem_append.mp z with z | z
   ·exact w1.g a z
   ·exact r1.g a (sub a z)
 ·rw [List.append_nil]
  intro z
  rcases List.mem_append.mp z with z | z
  ·exact QI z
  ·exact pf z
 ·rw [List.append_nil]
  exact List.nodup_append.mpr ⟨w1.d,(List.nodup_append.mp (q4.nodup_iff.mp r.d)).1,fun a ha b hb e=>ZL a ha (e ▸ hb)⟩
theorem Ko {α:Type}(l:List α)(m:Nat):cutD l none (some (m:Int))=l.take m:=by
 unfold cutD
 rw [HT.Bb]
 show (l.drop 0).take (min m l.length-0)=_
 rw [List.drop_zero,Nat.sub_zero]
 rcases Nat.le_total m l.length with h | h
 ·rw [Nat.min_eq_left h]
 ·rw [Nat.min_eq_right h,List.take_of_length_le (Nat.le_refl _),List.take_of_length_le h]
def i9 (os:List (List Int))(m A:Nat):List (List Int):=(os.take A).map fun o=>o.filter fun x=>decide (x<(m:Int))
abbrev pj:Stmt:=top 67
theorem IG:bj ["_law_table_here", "_law_things", "_law_askers", "_law_orders"] ["_law_table_here", "_law_things", "_law_askers"] (ah pj):=⟨rfl,rfl,rfl,by decide +kernel,rfl,by decide +kernel,by decide +kernel⟩
def Ou (dd:List Dv)(t:Tr):Prop:=∃ (c:List Int) (os:List (List Int)) (m A:Nat),bS c os/\dd=[aW c os,di m,di A]/\t=.tp [aR (c.take m),d9 (i9 os m A)]
theorem Tn {f:Addr}{fd:FuncData}{k:Nat}(F:bg K "_law_cut" "_law_cut" pj f fd)(T:Txt mg):aM P w K mg base ao (k+1) f fd ["_law_table_here", "_law_things", "_law_askers"] (spT K Ou):=by
 refine bD F.d IG (fun dd t h=>by obtain ⟨_,_,_,_,_,rfl,_⟩:=h;rfl) fun dd t h=>?_
 obtain ⟨c,os,m,A,ok,rfl,rfl⟩:=h
 refine ⟨_,.inl rfl,?_⟩
 have big : 1000<sizeLine:=by decide
 have o6:=ok.o6
 have ct:(os.take A).length<=6:=by rw [List.length_take];omega
 have e1:cutD (os.map dis) none (some (A:Int))=(os.take A).map dis:=by rw [Ko,List.map_take]
 have eR:Tr.ow ((os.take A).map fun o=>Tr.ow ((o.filter fun x=>decide (x<(m:Int))).map ti))=d9 (i9 os m A):=by
  unfold i9
  show Tr.ow _=Tr.ow (List.map _ (List.map _ _))
  rw [List.map_map];rfl
 refine aw (lW 3 (N6 (fh.to (t':=d9 (i9 os m A)) (tO (own:=["_law_order_here"]) (fr:=[1]) (os.take A) dis (fun o=>.ow ((o.filter fun x=>decide (x<(m:Int))).map ti)) (bJ.to (dD (AF (aV (ae 0 rfl) ak rfl (lY c os)) rfl KI (vH (ae 2 rfl))) (pS _)) e1) (cm 0 (fun _=>by show List.Nodup (["_law_order_here", "_law_things"]:List Str);decide)) (by decide) (by omega) (fun o ho=>⟨_,rfl,by
   have ol:=ok.iB (List.mem_of_mem_take ho)
   exact pT (own:=["_law_number"]) (fr:=[1]) o di (fun x=>decide (x<(m:Int))) ti (fun i=>CH ["_law_order_here", "_law_things"] ⟨rfl,by decide +kernel,by decide +kernel,by decide +kernel,by decide +kernel⟩ fun y hy=>lM _ _ y hy) (dD (ae 0 rfl) rfl) (cm 0 (fun _=>by show List.Nodup (["_law_number", "_law_things"]:List Str);decide)) (by decide) (by omega) (fun x hx=>⟨_,rfl,by exact j6 (kI (ae 0 rfl) (ae 1 rfl)),fun _=>by exact ae 0 rfl⟩) (fun dd=>by cases dd<;>rfl)⟩) (fun dd=>by cases dd<;>rfl)) eR) (JQ _)) (fun i=>wU ⟨rfl,rfl,by decide +kernel,by decide +kernel,by decide +kernel,by decide +kernel⟩) (fun _=>IG.nd)) ?_
 refine aK (XF 3 (ck.to (t':=aR (c.take m)) (Ev.s (nh T.j7 (AF (aV (ae 0 rfl) ak rfl (lZ c os)) rfl KI (vH (ae 1 rfl))) (.inl (pS _)))) ?_) rfl (fun τ E4 i=>lU (vW (aF (E4 i) (aF (pv 3) bu)))))
 rw [Ko,<- List.map_take,jW]
end
section
variable {P:Program}{w:World}{K:PySem.W.Frag}{mg:Str->Option Value}{base:Heap}
def QJ:Stmt->List Stmt
 | .If _ a _ _=>a
 |_=>[]
def QK:Stmt->List Stmt
 | .If _ _ b _=>b
 |_=>[]
abbrev ra:List Str:=["_law_script", "_law_cell", "_law_table_here", "_law_asker", "_law_kept", "_law_less", "_law_due", "_law_at"]
abbrev gj:Stmt:=top 68
theorem kF:bj ra ["_law_script"] (ah gj):=⟨rfl,rfl,rfl,by decide +kernel,rfl,by decide +kernel,by decide +kernel⟩
abbrev uP (i:Nat):Stmt:=(aN gj).getD i (.Pass ⟨0,0,0,0⟩)
theorem nA (cs:List Int)(os:List (List Int)):er (.tp [aR cs,d9 os])=aW cs os:=by
 show Dv.tup [er _,er _]=_
 rw [gf,JP];rfl
theorem MM {c:List Int}{os:List (List Int)}(ok:bS c os)(m A:Nat)(hA : 1<=A):bS (c.take m) (i9 os m A):=by
 have o1:=ok.o1
 have o6:=ok.o6
 have c6:=ok.c6
 have ol:(i9 os m A).length=min A os.length:=by unfold i9;rw [List.length_map,List.length_take]
 refine ⟨by rw [List.length_take];omega,fun x hx=>ok.cnt x (List.mem_of_mem_take hx),by omega,by omega,fun o ho=>?_,fun o ho x hx=>?_⟩
 ·obtain ⟨o',h1,rfl⟩:=List.mem_map.mp ho
  exact (ok.nd o' (List.mem_of_mem_take h1)).sublist List.filter_sublist
 ·obtain ⟨o',h1,rfl⟩:=List.mem_map.mp ho
  obtain ⟨h2,h3⟩:=List.mem_filter.mp hx
  have:=ok.cB o' (List.mem_of_mem_take h1) x h2
  have:=of_decide_eq_true h3
  rw [List.length_take]
  omega
theorem Y4 {c:List Int}{os:List (List Int)}(ok:bS c os)(h:c.length<5):bS (c++[1]) os:=by
 refine ⟨by rw [List.length_append,List.length_singleton];omega,fun x hx=>?_,ok.o1,ok.o6,ok.nd,fun o ho x hx=>?_⟩
 ·rcases List.mem_append.mp hx with hx | hx
  ·exact ok.cnt x hx
  ·rw [List.mem_singleton.mp hx];decide
 ·have:=ok.cB o ho x hx
  rw [List.length_append,List.length_singleton]
  omega
theorem Y5 {c:List Int}{os:List (List Int)}(ok:bS c os)(h:os.length<6){o:List Int}(ho:o ∈ os):bS c (os++[o]):=by
 refine ⟨ok.c6,ok.cnt,by rw [List.length_append,List.length_singleton];omega,by rw [List.length_append,List.length_singleton];omega,fun o' h'=>?_,fun o' h'=>?_⟩
 ·rcases List.mem_append.mp h' with h' | h'
  ·exact ok.nd o' h'
  ·rw [List.mem_singleton.mp h'];exact ok.nd o ho
 ·rcases List.mem_append.mp h' with h' | h'
  ·exact ok.cB o' h'
  ·rw [List.mem_singleton.mp h'];exact ok.cB o ho
abbrev iP (ns:List Int)(y:Int)(t:Tr):En:=[some (.fz (dis ns)),some (ti y),some t,none,none,none,none,none]
abbrev iQ (cs:List Int)(os:List (List Int)):Tr:=.tp [aR cs,d9 os]
theorem VR {f:Addr}{k:Nat}(T:Txt mg){ns:List Int}{y:Int}{os:List (List Int)}(cs:List Int)(ok:bS cs os):∃ lI,bS lI os/\5<=lI.length/\Rn (bB P w K mg base ra "law" (ah gj) f (k+10)) ((QJ (uP 2)).getD 0 (.Pass ⟨0,0,0,0⟩)) (iP ns y (iQ cs os)) (.nx (iP ns y (iQ lI os))):=by
 have big : 1000<sizeLine:=by decide
 obtain ⟨lI,h1,h2,h3⟩:∃ lI,bS lI os/\decide (lI.length<5)=false/\Rn (bB P w K mg base ra "law" (ah gj) f (k+10)) ((QJ (uP 2)).getD 0 (.Pass ⟨0,0,0,0⟩)) (iP ns y (iQ cs os)) (.nx (iP ns y (iQ lI os))):=by
  refine zL (fun cs=>iP ns y (iQ cs os)) (fun cs=>bS cs os) (fun cs=>decide (cs.length<5)) (fun cs=>5-cs.length) (fun cs ok=>?_) (fun cs ok hp=>?_) cs ok (by intro _;rfl)
  ·exact cX.to (Et.pk (kI (cu T.cg (aV (ae 2 rfl) ak (nA cs os) (lZ cs os)) (.inl rfl)) ak)) (by rw [List.length_map,decide_eq_decide];omega)
  ·have hp:=of_decide_eq_true hp
   exact ⟨cs++[1],Y4 ok hp,by rw [List.length_append,List.length_singleton];omega,aK (Xe 2 (c:=1) rfl (by omega) (fun i=>lQ (me PySem.F.plainAttrs_list PySem.F.slot_list_append PySem.F.type_list_append mY (sT BG (pv 2) nj (fun _ _=>rfl)) (aF nj bu))))⟩
 exact ⟨lI,h1,by have:=of_decide_eq_false h2;omega,h3⟩
theorem XG {f:Addr}{k:Nat}(T:Txt mg){ns:List Int}{y:Int}{cs:List Int}(os:List (List Int))(ok:bS cs os):∃ jx,bS cs jx/\jx.length=6/\Rn (bB P w K mg base ra "law" (ah gj) f (k+10)) ((QK (uP 2)).getD 1 (.Pass ⟨0,0,0,0⟩)) (iP ns y (iQ cs os)) (.nx (iP ns y (iQ cs jx))):=by
 have big : 1000<sizeLine:=by decide
 obtain ⟨jx,h1,h2,h3⟩:∃ jx,bS cs jx/\decide (jx.length<6)=false/\Rn (bB P w K mg base ra "law" (ah gj) f (k+10)) ((QK (uP 2)).getD 1 (.Pass ⟨0,0,0,0⟩)) (iP ns y (iQ cs os)) (.nx (iP ns y (iQ cs jx))):=by
  refine zL (fun os=>iP ns y (iQ cs os)) (fun os=>bS cs os) (fun os=>decide (os.length<6)) (fun os=>6-os.length) (fun os ok=>?_) (fun os ok hp=>?_) os ok (by intro _;rfl)
  ·exact cX.to (Et.pk (kI (cu T.cg (aV (ae 2 rfl) ak (nA cs os) (lY cs os)) (.inl rfl)) ak)) (by rw [List.length_map,decide_eq_decide];omega)
  ·have hp:=of_decide_eq_true hp
   have o1:=ok.o1
   obtain ⟨o,r,rfl⟩:∃ o r,os=o::r:=by
    cases os with
    |nil=>rw [List.length_nil] at o1;omega
    |cons o r=>exact ⟨o,r,rfl⟩
   have fI:bq ((o::r).map dis) 0=some (dis o):=by show bq _ ((0:Nat):Int)=_;exact fL rfl
   exact ⟨(o::r)++[o],Y5 ok hp (.head _),by rw [List.length_append,List.length_singleton];omega,aK (VQ 2 (o:=o) rfl (Ev.pk (t:=aR o) (Ev.to (nh T.j7 (dz (aV (ae 2 rfl) ak (nA cs (o::r)) (lY cs (o::r))) ak rfl fI) (.inl rfl)) (by rw [jW])) (sr _)) (by omega) (fun τ E4 i=>lQ (me PySem.F.plainAttrs_list PySem.F.slot_list_append PySem.F.type_list_append mY (sT BG (pv 2) nj (fun _ _=>rfl)) (aF (E4 i) bu))))⟩
 exact ⟨jx,h1,by have:=of_decide_eq_false h2;have:=h1.o6;omega,h3⟩
theorem Y6:∀ n:Nat,n<=2->bq [di 1,di 2,di 5] (n:Int)=some (di (((dZ n n).length:Nat):Int)):=by
 intro n hn
 have:n=0\/n=1\/n=2:=by omega
 rcases this with rfl | rfl | rfl
 ·exact fL rfl
 ·exact fL rfl
 ·exact fL rfl
theorem Y7 {f f1 f2 f3 f4 f5:Addr}{fd aE fd2 fJ uM qZ:FuncData}{k:Nat}{tk:Tok}(F:bg K "law" "law" gj f fd)(T:Txt mg)(zD:Kn P w K mg base ao (k+1) "_law_cell_at" f1 aE ["_law_script", "_law_k"] (spT K CT))(SV:Kn P w K mg base ao (k+2) "_law_table" f2 fd2 ["_law_script", "_law_start", "_law_things", "_law_askers"] (spT K Mz))(IT:Kn P w K mg base ao (k+1) "_law_cut" f3 fJ ["_law_table_here", "_law_things", "_law_askers"] (spT K Ou))(u3:Kn P w K mg base ao (k+10) "_law_refusal" f4 uM ["_law_table_here", "_law_asker", "_law_way"] (spT K DP))(Cu:Kn P w K mg base ao (k+9) "lies" f5 qZ ["table", "asker", "way"] (spT K CY))(B1:Binds K qZ ["table", "asker", "way"] [.str "meal" tk]):aM P w K mg base ao (k+11) f fd ["_law_script"] (spT K N7):=by
 refine bD F.d kF (fun dd t h=>by obtain ⟨_,_,rfl,_⟩:=h;rfl) fun dd t h=>?_
 obtain ⟨ns,gS,rfl,rfl⟩:=h
 refine ⟨_,.inl rfl,?_⟩
 have big : 1000<sizeLine:=by decide
 refine aw (aQ 1 (Ev.s (aI zD (by show k+1<=k+10;omega) (af (ae 0 rfl) (af ak aq)) ⟨ns,13,by decide,rfl,rfl⟩)) (fun _=>kF.nd)) ?_
 generalize bR ns 13=y
 refine aw (aQ 2 (Ev.s (aI SV (by show k+2<=k+10;omega) (af (ae 0 rfl) (af ak (af ak (af ak aq)))) ⟨ns,0,6,by decide,by decide,by decide,rfl,rfl⟩)) (fun _=>kF.nd)) ?_
 have uQ:bS (jX ns 0) (fN ns 0 6):=YN (by decide) (by decide)
 generalize jX ns 0=rg at uQ
 generalize fN ns 0 6=rh at uQ
 show bC _ _ (iP ns y (iQ rg rh)) _
 obtain ⟨cs,os,ok,hG,hif⟩:∃ cs os,bS cs os/\((y % 2=0/\4<cs.length)\/(y % 2 ≠ 0/\cs.length<=4/\5<os.length))/\Rn (bB P w K mg base ra "law" (ah gj) f (k+10)) (uP 2) (iP ns y (iQ rg rh)) (.nx (iP ns y (iQ cs os))):=by
  by_cases hy:y % 2=0
  ·obtain ⟨cs,o1,o2,o3⟩:=VR (P:=P) (w:=w) (K:=K) (mg:=mg) (base:=base) (f:=f) (k:=k) T (ns:=ns) (y:=y) rg uQ
   exact ⟨cs,rh,o1,.inl ⟨hy,by omega⟩,nr (Et.s (jq (eU (ae 1 rfl) ak (by decide)) ak)) (decide_eq_true hy) (aK o3)⟩
  ·have okc:=MM uQ 3 6 (by decide)
   obtain ⟨os,o1,o2,o3⟩:=XG (P:=P) (w:=w) (K:=K) (mg:=mg) (base:=base) (f:=f) (k:=k) T (ns:=ns) (y:=y) (i9 rh 3 6) okc
   refine ⟨rg.take 3,os,o1,.inr ⟨hy,by rw [List.length_take];omega,by omega⟩,L6 (Et.s (jq (eU (ae 1 rfl) ak (by decide)) ak)) (decide_eq_false hy) ?_⟩
   refine Im (d:=aW rg rh) 2 rfl (nA _ _) ?_
   exact aw (aQ 2 (Ev.s (aI IT (by show k+1<=k+10;omega) (af (ae 2 rfl) (af ak (af ak aq))) ⟨rg,rh,3,6,uQ,rfl,rfl⟩)) (fun _=>kF.nd)) (aK o3)
 refine aw hif ?_
 refine Im (d:=aW cs os) 2 rfl (nA _ _) ?_
 have o1:=ok.o1
 have o6:=ok.o6
 have c6:=ok.c6
 have iB:(((os.map dis).length:Nat):Int)=os.length:=by rw [List.length_map]
 obtain ⟨a,ea⟩:∃ a,a=y / 2 % (os.length:Int):=⟨_,rfl⟩
 have a0 : 0<=a:=by rw [ea];exact Int.emod_nonneg _ (by omega)
 have a1:a<os.length:=by rw [ea];exact Int.emod_lt_of_pos _ (by omega)
 refine aw (aQ 3 (ck.to (t':=ti a) (Ev.s (eU (jZ (ae 1 rfl) ak ⟨by decide,jQ (by decide) (by decide)⟩) (cu T.cg (aV (ae 2 rfl) ak rfl (lY cs os)) (.inl rfl)) (by rw [iB];omega))) (by rw [iB,ea])) (fun _=>kF.nd)) ?_
 have ekp:er (.tp [.ow ((cs.map di).map Tr.fz),.ow (os.map aR)])=aW cs os:=by rw [jW];exact nA cs os
 refine aw (aQ 4 (Ev.s (Ev.as (d:=aW cs os) (BQ (af (nh T.j7 (aV (ae 2 rfl) ak rfl (lZ cs os)) (.inl rfl)) (af (jm (own:=["_law_one"]) (fr:=[]) os dis aR (fun i=>lcs ⟨rfl,rfl,by decide +kernel,by decide +kernel,by decide +kernel,by decide +kernel⟩) (dD (aV (ae 2 rfl) ak rfl (lY cs os)) rfl) (cm 0 (fun _=>by show List.Nodup (["_law_one"]:List Str);decide)) (by decide) (by omega) (fun o ho=>⟨_,rfl,by exact Ev.to (nh T.j7 (ae 0 rfl) (.inl rfl)) (by rw [jW])⟩) (fun dd=>by cases dd<;>rfl)) aq)) (by show 2<=sizeLine;decide)) ekp)) (fun _=>kF.nd)) ?_
 have e13:er (aR [1,13])=dis [1,13]:=gf _
 have xn:dI (er (aR [1,13]))<=50:=by rw [e13];exact Nat.le_trans (vM _) (by decide)
 have rt:DP [aW cs os,di a,ds "turns"] (aR [1,13]):=⟨cs,os,a, "turns",a0,a1,by
  rcases hG with ⟨_,h⟩ | ⟨_,h,h'⟩
  ·exact .inl ⟨h,.inr (.inr rfl)⟩
  ·exact .inr ⟨h,rfl,h'⟩,rfl,rfl⟩
 show bC _ _ [some (.fz (dis ns)),some (ti y),some (.fz (aW cs os)),some (ti a),some (.fz (aW cs os)),none,none,none] _
 refine aw (wu (o:=.nx [some (.fz (dis ns)),some (ti y),some (.fz (aW cs os)),some (ti a),some (.fz (aW cs os)),none,none,none]) (p:=decide (y % 2=0)) (Et.s (jq (eU (ae 1 rfl) ak (by decide)) ak)) (fun h=>?_) (fun h=>vI)) ?_
 ·have hy:=of_decide_eq_true h
  have c5 : 4<cs.length:=by
   rcases hG with ⟨_,h⟩ | ⟨h,_⟩
   ·exact h
   ·exact absurd hy h
  exact aK (dG (Et.s (Ew.et (mj (pR (aI u3 (Nat.le_refl _) (af (ae 2 rfl) (af (ae 3 rfl) (af gK aq))) ⟨cs,os,a, "",a0,a1,.inl ⟨c5,.inl rfl⟩,rfl,rfl⟩) (df (af ak (af ak aq)) (by show 2<=sizeLine;decide)) (.inl ⟨_,_,rfl,rfl⟩) xn) fun _=>(lV (pR (aI u3 (Nat.le_refl _) (af (ae 2 rfl) (af (ae 3 rfl) (af gK aq))) ⟨cs,os,a, "meal",a0,a1,.inl ⟨c5,.inr (.inl rfl)⟩,rfl,rfl⟩) (df (af ak (af ak aq)) (by show 2<=sizeLine;decide)) (.inl ⟨_,_,rfl,rfl⟩) xn))))) rfl)
 have et:cN (aW cs os) (aW cs os)=true:=AG (Wk _ _)
 have QL:dI (aW cs os)<=50:=Nat.le_trans (Wl _ _) (by decide)
 refine aw (dG (cX.to (q:=false) (Et.s (Ew.et (mj (pR (aI u3 (Nat.le_refl _) (af (ae 2 rfl) (af (ae 3 rfl) (af gK aq))) rt) (df (af ak (af ak aq)) (by show 2<=sizeLine;decide)) (.inl ⟨_,_,rfl,rfl⟩) xn) fun _=>(lV (pR (ae 2 rfl) (ae 4 rfl) (.inr ⟨_,_,rfl,rfl⟩) QL))))) (by
  show (_ || !cN (aW cs os) (aW cs os))=false
  rw [et];rfl)) rfl) ?_
 have lH:=MM ok 2 3 (by decide)
 refine aw (aQ 5 (Ev.s (Ev.as (d:=aW (cs.take 2) (i9 os 2 3)) (aI IT (by show k+1<=k+10;omega) (af (ae 2 rfl) (af ak (af ak aq))) ⟨cs,os,2,3,ok,rfl,rfl⟩) (nA _ _))) (fun _=>kF.nd)) ?_
 have c2:(cs.take 2).length<=2:=by rw [List.length_take];omega
 have o3:(i9 os 2 3).length<=3:=by unfold i9;rw [List.length_map,List.length_take];omega
 generalize cs.take 2=cl at lH c2
 generalize i9 os 2 3=ol at lH o3
 have l1:=lH.o1
 have NP:(((ol.map dis).length:Nat):Int)=ol.length:=by rw [List.length_map]
 have ZM:(((cl.map di).length:Nat):Int)=cl.length:=by rw [List.length_map]
 obtain ⟨b,eb⟩:∃ b,b=a % (ol.length:Int):=⟨_,rfl⟩
 have b0 : 0<=b:=by rw [eb];exact Int.emod_nonneg _ (by omega)
 have b1:b<ol.length:=by rw [eb];exact Int.emod_lt_of_pos _ (by omega)
 refine aw (aQ 6 (Ev.s (dz (d:=di (((dZ cl.length cl.length).length:Nat):Int)) (xs:=[di 1,di 2,di 5]) (df (af ak (af ak (af ak aq))) (by show 3<=sizeLine;decide)) (cu T.cg (aV (ae 5 rfl) ak rfl (lZ cl ol)) (.inl rfl)) rfl (by rw [ZM];exact Y6 _ c2))) (fun _=>kF.nd)) ?_
 refine aw (aQ 7 (ck.to (t':=ti b) (Ev.s (eU (ae 3 rfl) (cu T.cg (aV (ae 5 rfl) ak rfl (lY cl ol)) (.inl rfl)) (by rw [NP];omega))) (by rw [NP,eb])) (fun _=>kF.nd)) ?_
 have xk:∀ (g:List Int->Dv),(((((dZ cl.length cl.length).map g).length:Nat):Int))=((dZ cl.length cl.length).length:Nat):=fun g=>by rw [List.length_map]
 refine aw (dG (cX.to (q:=false) (Et.s (Ew.et (mj (wt (cu T.cg (aI Cu (by show k+9<=k+10;omega) (af (ae 5 rfl) (af (ae 7 rfl) (af gK aq))) ⟨cl,ol,b, "turns",_,_,lH,by omega,b0,b1,.turns (by omega),rfl,rfl⟩) (.inl (fk _ _))) (ae 6 rfl)) fun _=>(lV (wt (cu T.cg (Vu Cu B1 (by show k+9<=k+10;omega) (af (ae 5 rfl) (af (ae 7 rfl) aq)) ⟨cl,ol,b, "meal",_,_,lH,by omega,b0,b1,.tU,rfl,rfl⟩) (.inl (fk _ _))) (ae 6 rfl)))))) (by
  rw [xk,xk,decide_eq_true rfl];rfl)) rfl) ?_
 exact aK (cf (Ev.s (Ev.to (LU (p:=true) (q:=true) (Ev.to (LN (aI u3 (Nat.le_refl _) (af (ae 2 rfl) (af (ae 3 rfl) (af gK aq))) rt) (df (af ak (af ak aq)) (by show 2<=sizeLine;decide)) (.inl ⟨_,_,rfl,rfl⟩) xn) rfl) fun _=>(v5 (Ev.to (LN (ae 2 rfl) (ae 4 rfl) (.inr ⟨_,_,rfl,rfl⟩) QL) (show tb (cN (aW cs os) (aW cs os))=tb true by rw [et])))) rfl)))
end
end bM
namespace bM
open PySem L2
theorem jN {α:Type}{us:List α}(h:us.length=1):∃ a0,us=[a0]:=by
 rcases us with _ | ⟨a0,us⟩;· cases h
 rcases us with _ | ⟨b,us⟩
 ·exact ⟨a0,rfl⟩
 ·simp at h
theorem fY {α:Type}{us:List α}(h:us.length=2):∃ a0 a1,us=[a0,a1]:=by
 rcases us with _ | ⟨a0,us⟩;· cases h
 rcases us with _ | ⟨a1,us⟩;· cases h
 rcases us with _ | ⟨b,us⟩
 ·exact ⟨a0,a1,rfl⟩
 ·simp at h
theorem lJ {α:Type}{us:List α}(h:us.length=3):∃ a0 a1 a2,us=[a0,a1,a2]:=by
 rcases us with _ | ⟨a0,us⟩;· cases h
 rcases us with _ | ⟨a1,us⟩;· cases h
 rcases us with _ | ⟨a2,us⟩;· cases h
 rcases us with _ | ⟨b,us⟩
 ·exact ⟨a0,a1,a2,rfl⟩
 ·simp at h
theorem E5 {α:Type}{us:List α}(h:us.length=4):∃ a0 a1 a2 a3,us=[a0,a1,a2,a3]:=by
 rcases us with _ | ⟨a0,us⟩;· cases h
 rcases us with _ | ⟨a1,us⟩;· cases h
 rcases us with _ | ⟨a2,us⟩;· cases h
 rcases us with _ | ⟨a3,us⟩;· cases h
 rcases us with _ | ⟨b,us⟩
 ·exact ⟨a0,a1,a2,a3,rfl⟩
 ·simp at h
theorem all_mk {l:PySem.W.OpenLaw}{w:World}{K:PySem.W.Frag}{h:Heap}{mg:Str->Option Value}{fa:Addr}(X:K.In h)(G:h.Ns mainGlobals mg)(hfa:mg "law" = some (.ref fa)){f1:Addr}{od1 an1:Option Addr}{Qk:Array (Option Value)}{oc1 kV1 dc1 pm1 QM ct1:Value}{f2:Addr}{od2 an2:Option Addr}{kY:Array (Option Value)}{oc2 kV2 dc2 pm2 QN ct2:Value}{f3:Addr}{od3 E6:Option Addr}{sl3:Array (Option Value)}{oc3 E7 E8 E9 yh Fb:Value}{yi:Addr}{do3:Value}{dd3:Option Addr}{dn3:Nat}{ds3:Array (Option Value)}{QO:Tok}{f4:Addr}{od4 an4:Option Addr}{sl4:Array (Option Value)}{oc4 kV4 dc4 pm4 QP ct4:Value}{f5:Addr}{od5 an5:Option Addr}{sl5:Array (Option Value)}{oc5 kV5 dc5 pm5 QQ ct5:Value}{f6:Addr}{od6 an6:Option Addr}{sl6:Array (Option Value)}{oc6 kV6 dc6 pm6 QR ct6:Value}{f7:Addr}{od7 an7:Option Addr}{sl7:Array (Option Value)}{oc7 kV7 dc7 pm7 yf ct7:Value}{f8:Addr}{od8 an8:Option Addr}{sl8:Array (Option Value)}{oc8 kV8 dc8 pm8 QS ct8:Value}{f9:Addr}{od9 an9:Option Addr}{sl9:Array (Option Value)}{oc9 kV9 dc9 pm9 QT ct9:Value}{Fc:Addr}{aaw aax:Option Addr}{aay:Array (Option Value)}{aaz aaA aaB aaC Ov aaD:Value}{Fe:Addr}{aaE aaF:Option Addr}{aaG:Array (Option Value)}{aaH aaI aaJ aaK Ox aaL:Value}{Ff:Addr}{aaM aaN:Option Addr}{aaO:Array (Option Value)}{aaP aaQ aaR aaS Oy aaT:Value}{Fh:Addr}{aaU aaV:Option Addr}{aaW:Array (Option Value)}{aaX aaY aaZ aa0 Oz aa1:Value}{Fi:Addr}{aa2 aa3:Option Addr}{aa4:Array (Option Value)}{aa5 aa6 aa7 aa8 OA aa9:Value}{Fj:Addr}{abb abd:Option Addr}{abe:Array (Option Value)}{abf abg abh abi OB abj:Value}{Fl:Addr}{abk abl:Option Addr}{abm:Array (Option Value)}{abn abo abp abq OC abr:Value}{Fm:Addr}{abt abu:Option Addr}{abv:Array (Option Value)}{abw abx aby abz OD abA:Value}{Fo:Addr}{abB abC:Option Addr}{abD:Array (Option Value)}{abE abF abG abH OG abI:Value}{Fp:Addr}{abJ abK:Option Addr}{abL:Array (Option Value)}{abM abN abO abP OH abQ:Value}{Fq:Addr}{abR abS:Option Addr}{abT:Array (Option Value)}{abU abV abW abX OI abY:Value}{Fs:Addr}{abZ ab0:Option Addr}{ab1:Array (Option Value)}{ab2 ab3 ab4 ab5 OJ ab6:Value}{Ft:Addr}{ab7 ab8:Option Addr}{ab9:Array (Option Value)}{aca acb acd ace OL acf:Value}{Fu:Addr}{acg ach:Option Addr}{aci:Array (Option Value)}{acj ack acm acn OM aco:Value}{Fv:Addr}{acp acq:Option Addr}{acr:Array (Option Value)}{acs acu acv acw OO acx:Value}{Fw:Addr}{acy acz:Option Addr}{acA:Array (Option Value)}{acB acC acD acE OQ acF:Value}{Fx:Addr}{acG acH:Option Addr}{acI:Array (Option Value)}{acJ acK acL acM OS acN:Value}{Fy:Addr}{acO acP:Option Addr}{acQ:Array (Option Value)}{acR acS acT acU OT acV:Value}{Fz:Addr}{acW acX:Option Addr}{acY:Array (Option Value)}{acZ ac0 ac1 ac2 OU ac3:Value}{FA:Addr}{ac4 ac5:Option Addr}{ac6:Array (Option Value)}{ac7 ac8 ac9 ada OV adb:Value}{FC:Addr}{ade adf:Option Addr}{adg:Array (Option Value)}{adh adi adj adk OW adl:Value}{FD:Addr}{adn ado:Option Addr}{adp:Array (Option Value)}{adq ads adt adu OX adv:Value}{FE:Addr}{adw adx:Option Addr}{ady:Array (Option Value)}{adz adA adB adC OY adD:Value}{FG:Addr}{adE adF:Option Addr}{adG:Array (Option Value)}{adH adI adJ adK OZ adL:Value}{FH:Addr}{adM adN:Option Addr}{adO:Array (Option Value)}{adP adQ adR adS O0 adT:Value}{FI:Addr}{adU DQ:Option Addr}{adV:Array (Option Value)}{adW DR DT DU xo DV:Value}{xq:Addr}{adX:Value}{adY:Option Addr}{adZ:Nat}{ad0:Array (Option Value)}{O1:Tok}{FJ:Addr}{ad1 ad2:Option Addr}{ad3:Array (Option Value)}{ad4 ad5 ad6 ad7 O2 ad8:Value}{FK:Addr}{ad9 aea:Option Addr}{aeb:Array (Option Value)}{aec aed aee aef O3 aeg:Value}{FL:Addr}{aeh aei:Option Addr}{aej:Array (Option Value)}{aek ael aem aen O4 aeo:Value}{FN:Addr}{aep aeq:Option Addr}{aer:Array (Option Value)}{aes aet aeu aev O5 aew:Value}{FO:Addr}{aex aey:Option Addr}{aez:Array (Option Value)}{aeA aeB aeC aeD O6 aeE:Value}{FP:Addr}{aeF aeG:Option Addr}{aeH:Array (Option Value)}{aeI aeJ aeK aeL O7 aeM:Value}{FQ:Addr}{aeN O8:Option Addr}{aeO:Array (Option Value)}{aeP O9 Pa Pb qG Pg:Value}{gt1:Tok}{gt2:Tok}{gt3:Tok}{gt4:Tok}{m4 cG cF vz vA we vo vS vp vq vT vU wg vB:Addr}(a1:PySem.W.nsIn K mainGlobals "is_whole" = some (some (.ref f1)))(l1:K.lookup f1=some ⟨oc1,od1,.func (PySem.W.fnOf "is_whole" "is_whole" (aX oZ) (aN oZ) (ah oZ) .none kV1 dc1 pm1 an1 QM ct1),Qk⟩)(c1:PySem.W.codeIn K QM "is_whole" = true)(k1:PySem.W.keepIn K (.ref f1)=true)(a2:PySem.W.nsIn K mainGlobals "common_part" = some (some (.ref f2)))(l2:K.lookup f2=some ⟨oc2,od2,.func (PySem.W.fnOf "common_part" "common_part" (aX oK) (aN oK) (ah oK) .none kV2 dc2 pm2 an2 QN ct2),kY⟩)(c2:PySem.W.codeIn K QN "common_part" = true)(k2:PySem.W.keepIn K (.ref f2)=true)(a3:PySem.W.nsIn K mainGlobals "fraction" = some (some (.ref f3)))(l3:K.lookup f3=some ⟨oc3,od3,.func (PySem.W.fnOf "fraction" "fraction" (aX iT) (aN iT) (ah iT) (.ref yi) E7 E8 E9 E6 yh Fb),sl3⟩)(d3:K.lookup yi=some ⟨do3,dd3,.seq #[.int 1 QO] dn3,ds3⟩)(c3:PySem.W.codeIn K yh "fraction" = true)(k3:PySem.W.keepIn K (.ref f3)=true)(a4:PySem.W.nsIn K mainGlobals "plus" = some (some (.ref f4)))(l4:K.lookup f4=some ⟨oc4,od4,.func (PySem.W.fnOf "plus" "plus" (aX pW) (aN pW) (ah pW) .none kV4 dc4 pm4 an4 QP ct4),sl4⟩)(c4:PySem.W.codeIn K QP "plus" = true)(k4:PySem.W.keepIn K (.ref f4)=true)(a5:PySem.W.nsIn K mainGlobals "minus" = some (some (.ref f5)))(l5:K.lookup f5=some ⟨oc5,od5,.func (PySem.W.fnOf "minus" "minus" (aX pM) (aN pM) (ah pM) .none kV5 dc5 pm5 an5 QQ ct5),sl5⟩)(c5:PySem.W.codeIn K QQ "minus" = true)(k5:PySem.W.keepIn K (.ref f5)=true)(a6:PySem.W.nsIn K mainGlobals "times" = some (some (.ref f6)))(l6:K.lookup f6=some ⟨oc6,od6,.func (PySem.W.fnOf "times" "times" (aX pN) (aN pN) (ah pN) .none kV6 dc6 pm6 an6 QR ct6),sl6⟩)(c6:PySem.W.codeIn K QR "times" = true)(k6:PySem.W.keepIn K (.ref f6)=true)(a7:PySem.W.nsIn K mainGlobals "over" = some (some (.ref f7)))(l7:K.lookup f7=some ⟨oc7,od7,.func (PySem.W.fnOf "over" "over" (aX pZ) (aN pZ) (ah pZ) .none kV7 dc7 pm7 an7 yf ct7),sl7⟩)(c7:PySem.W.codeIn K yf "over" = true)(k7:PySem.W.keepIn K (.ref f7)=true)(a8:PySem.W.nsIn K mainGlobals "under" = some (some (.ref f8)))(l8:K.lookup f8=some ⟨oc8,od8,.func (PySem.W.fnOf "under" "under" (aX pO) (aN pO) (ah pO) .none kV8 dc8 pm8 an8 QS ct8),sl8⟩)(c8:PySem.W.codeIn K QS "under" = true)(k8:PySem.W.keepIn K (.ref f8)=true)(a9:PySem.W.nsIn K mainGlobals "sum_of" = some (some (.ref f9)))(l9:K.lookup f9=some ⟨oc9,od9,.func (PySem.W.fnOf "sum_of" "sum_of" (aX pG) (aN pG) (ah pG) .none kV9 dc9 pm9 an9 QT ct9),sl9⟩)(c9:PySem.W.codeIn K QT "sum_of" = true)(k9:PySem.W.keepIn K (.ref f9)=true)(kX:PySem.W.nsIn K mainGlobals "least_of" = some (some (.ref Fc)))(l10:K.lookup Fc=some ⟨aaz,aaw,.func (PySem.W.fnOf "least_of" "least_of" (aX o8) (aN o8) (ah o8) .none aaA aaB aaC aax Ov aaD),aay⟩)(FR:PySem.W.codeIn K Ov "least_of" = true)(yj:PySem.W.keepIn K (.ref Fc)=true)(FT:PySem.W.nsIn K mainGlobals "check_orders" = some (some (.ref Fe)))(FU:K.lookup Fe=some ⟨aaH,aaE,.func (PySem.W.fnOf "check_orders" "check_orders" (aX oG) (aN oG) (ah oG) .none aaI aaJ aaK aaF Ox aaL),aaG⟩)(FV:PySem.W.codeIn K Ox "check_orders" = true)(yk:PySem.W.keepIn K (.ref Fe)=true)(FW:PySem.W.nsIn K mainGlobals "table_of" = some (some (.ref Ff)))(FX:K.lookup Ff=some ⟨aaP,aaM,.func (PySem.W.fnOf "table_of" "table_of" (aX o7) (aN o7) (ah o7) .none aaQ aaR aaS aaN Oy aaT),aaO⟩)(FY:PySem.W.codeIn K Oy "table_of" = true)(yl:PySem.W.keepIn K (.ref Ff)=true)(FZ:PySem.W.nsIn K mainGlobals "full_order" = some (some (.ref Fh)))(F0:K.lookup Fh=some ⟨aaX,aaU,.func (PySem.W.fnOf "full_order" "full_order" (aX oR) (aN oR) (ah oR) .none aaY aaZ aa0 aaV Oz aa1),aaW⟩)(Ge:PySem.W.codeIn K Oz "full_order" = true)(ym:PySem.W.keepIn K (.ref Fh)=true)(Gf:PySem.W.nsIn K mainGlobals "first_left" = some (some (.ref Fi)))(Gg:K.lookup Fi=some ⟨aa5,aa2,.func (PySem.W.fnOf "first_left" "first_left" (aX oS) (aN oS) (ah oS) .none aa6 aa7 aa8 aa3 OA aa9),aa4⟩)(Gh:PySem.W.codeIn K OA "first_left" = true)(yo:PySem.W.keepIn K (.ref Fi)=true)(Gi:PySem.W.nsIn K mainGlobals "next_length" = some (some (.ref Fj)))(Gj:K.lookup Fj=some ⟨abf,abb,.func (PySem.W.fnOf "next_length" "next_length" (aX oM) (aN oM) (ah oM) .none abg abh abi abd OB abj),abe⟩)(Gk:PySem.W.codeIn K OB "next_length" = true)(yp:PySem.W.keepIn K (.ref Fj)=true)(Gm:PySem.W.nsIn K mainGlobals "left_behind" = some (some (.ref Fl)))(Gn:K.lookup Fl=some ⟨abn,abk,.func (PySem.W.fnOf "left_behind" "left_behind" (aX oN) (aN oN) (ah oN) .none abo abp abq abl OC abr),abm⟩)(c16:PySem.W.codeIn K OC "left_behind" = true)(yq:PySem.W.keepIn K (.ref Fl)=true)(Gp:PySem.W.nsIn K mainGlobals "ended_things" = some (some (.ref Fm)))(Gq:K.lookup Fm=some ⟨abw,abt,.func (PySem.W.fnOf "ended_things" "ended_things" (aX oI) (aN oI) (ah oI) .none abx aby abz abu OD abA),abv⟩)(Gr:PySem.W.codeIn K OD "ended_things" = true)(yr:PySem.W.keepIn K (.ref Fm)=true)(Gs:PySem.W.nsIn K mainGlobals "meal_steps" = some (some (.ref Fo)))(Gu:K.lookup Fo=some ⟨abE,abB,.func (PySem.W.fnOf "meal_steps" "meal_steps" (aX oW) (aN oW) (ah oW) .none abF abG abH abC OG abI),abD⟩)(Gv:PySem.W.codeIn K OG "meal_steps" = true)(yt:PySem.W.keepIn K (.ref Fo)=true)(Gw:PySem.W.nsIn K mainGlobals "eaten_by" = some (some (.ref Fp)))(Gx:K.lookup Fp=some ⟨abM,abJ,.func (PySem.W.fnOf "eaten_by" "eaten_by" (aX o9) (aN o9) (ah o9) .none abN abO abP abK OH abQ),abL⟩)(Gy:PySem.W.codeIn K OH "eaten_by" = true)(yu:PySem.W.keepIn K (.ref Fp)=true)(Gz:PySem.W.nsIn K mainGlobals "meal" = some (some (.ref Fq)))(GA:K.lookup Fq=some ⟨abU,abR,.func (PySem.W.fnOf "meal" "meal" (aX p7) (aN p7) (ah p7) .none abV abW abX abS OI abY),abT⟩)(GB:PySem.W.codeIn K OI "meal" = true)(yv:PySem.W.keepIn K (.ref Fq)=true)(GD:PySem.W.nsIn K mainGlobals "sums" = some (some (.ref Fs)))(GF:K.lookup Fs=some ⟨ab2,abZ,.func (PySem.W.fnOf "sums" "sums" (aX pY) (aN pY) (ah pY) .none ab3 ab4 ab5 ab0 OJ ab6),ab1⟩)(GH:PySem.W.codeIn K OJ "sums" = true)(yw:PySem.W.keepIn K (.ref Fs)=true)(GI:PySem.W.nsIn K mainGlobals "as_good" = some (some (.ref Ft)))(GJ:K.lookup Ft=some ⟨aca,ab7,.func (PySem.W.fnOf "as_good" "as_good" (aX pB) (aN pB) (ah pB) .none acb acd ace ab8 OL acf),ab9⟩)(GK:PySem.W.codeIn K OL "as_good" = true)(yx:PySem.W.keepIn K (.ref Ft)=true)(GL:PySem.W.nsIn K mainGlobals "weight_of" = some (some (.ref Fu)))(GN:K.lookup Fu=some ⟨acj,acg,.func (PySem.W.fnOf "weight_of" "weight_of" (aX oX) (aN oX) (ah oX) .none ack acm acn ach OM aco),aci⟩)(GO:PySem.W.codeIn K OM "weight_of" = true)(yy:PySem.W.keepIn K (.ref Fu)=true)(GP:PySem.W.nsIn K mainGlobals "shares_of" = some (some (.ref Fv)))(GQ:K.lookup Fv=some ⟨acs,acp,.func (PySem.W.fnOf "shares_of" "shares_of" (aX oY) (aN oY) (ah oY) .none acu acv acw acq OO acx),acr⟩)(GR:PySem.W.codeIn K OO "shares_of" = true)(yz:PySem.W.keepIn K (.ref Fv)=true)(GU:PySem.W.nsIn K mainGlobals "deal_by" = some (some (.ref Fw)))(GV:K.lookup Fw=some ⟨acB,acy,.func (PySem.W.fnOf "deal_by" "deal_by" (aX pA) (aN pA) (ah pA) .none acC acD acE acz OQ acF),acA⟩)(GW:PySem.W.codeIn K OQ "deal_by" = true)(yA:PySem.W.keepIn K (.ref Fw)=true)(GX:PySem.W.nsIn K mainGlobals "longer" = some (some (.ref Fx)))(GY:K.lookup Fx=some ⟨acJ,acG,.func (PySem.W.fnOf "longer" "longer" (aX pF) (aN pF) (ah pF) .none acK acL acM acH OS acN),acI⟩)(GZ:PySem.W.codeIn K OS "longer" = true)(yB:PySem.W.keepIn K (.ref Fx)=true)(yC:PySem.W.nsIn K mainGlobals "all_turns" = some (some (.ref Fy)))(G7:K.lookup Fy=some ⟨acR,acO,.func (PySem.W.fnOf "all_turns" "all_turns" (aX mV) (aN mV) (ah mV) .none acS acT acU acP OT acV),acQ⟩)(G8:PySem.W.codeIn K OT "all_turns" = true)(uR:PySem.W.keepIn K (.ref Fy)=true)(yD:PySem.W.nsIn K mainGlobals "turn_mix" = some (some (.ref Fz)))(G9:K.lookup Fz=some ⟨acZ,acW,.func (PySem.W.fnOf "turn_mix" "turn_mix" (aX cw) (aN cw) (ah cw) .none ac0 ac1 ac2 acX OU ac3),acY⟩)(Hc:PySem.W.codeIn K OU "turn_mix" = true)(uU:PySem.W.keepIn K (.ref Fz)=true)(yE:PySem.W.nsIn K mainGlobals "turn_shares" = some (some (.ref FA)))(Hd:K.lookup FA=some ⟨ac7,ac4,.func (PySem.W.fnOf "turn_shares" "turn_shares" (aX mU) (aN mU) (ah mU) .none ac8 ac9 ada ac5 OV adb),ac6⟩)(He:PySem.W.codeIn K OV "turn_shares" = true)(uV:PySem.W.keepIn K (.ref FA)=true)(Hf:PySem.W.nsIn K mainGlobals "check_asker" = some (some (.ref FC)))(Hg:K.lookup FC=some ⟨adh,ade,.func (PySem.W.fnOf "check_asker" "check_asker" (aX oP) (aN oP) (ah oP) .none adi adj adk adf OW adl),adg⟩)(Hh:PySem.W.codeIn K OW "check_asker" = true)(yF:PySem.W.keepIn K (.ref FC)=true)(Hi:PySem.W.nsIn K mainGlobals "told_otherwise" = some (some (.ref FD)))(Hj:K.lookup FD=some ⟨adq,adn,.func (PySem.W.fnOf "told_otherwise" "told_otherwise" (aX oA) (aN oA) (ah oA) .none ads adt adu ado OX adv),adp⟩)(Hk:PySem.W.codeIn K OX "told_otherwise" = true)(yG:PySem.W.keepIn K (.ref FD)=true)(yH:PySem.W.nsIn K mainGlobals "all_orders" = some (some (.ref FE)))(Hl:K.lookup FE=some ⟨adz,adw,.func (PySem.W.fnOf "all_orders" "all_orders" (aX dw) (aN dw) (ah dw) .none adA adB adC adx OY adD),ady⟩)(Hm:PySem.W.codeIn K OY "all_orders" = true)(uW:PySem.W.keepIn K (.ref FE)=true)(yI:PySem.W.nsIn K mainGlobals "row_at" = some (some (.ref FG)))(Hn:K.lookup FG=some ⟨adH,adE,.func (PySem.W.fnOf "row_at" "row_at" (aX m9) (aN m9) (ah m9) .none adI adJ adK adF OZ adL),adG⟩)(Ho:PySem.W.codeIn K OZ "row_at" = true)(uX:PySem.W.keepIn K (.ref FG)=true)(Hq:PySem.W.nsIn K mainGlobals "word_for" = some (some (.ref FH)))(Hr:K.lookup FH=some ⟨adP,adM,.func (PySem.W.fnOf "word_for" "word_for" (aX ph) (aN ph) (ah ph) .none adQ adR adS adN O0 adT),adO⟩)(Hs:PySem.W.codeIn K O0 "word_for" = true)(yJ:PySem.W.keepIn K (.ref FH)=true)(yK:PySem.W.nsIn K mainGlobals "lies" = some (some (.ref FI)))(Ht:K.lookup FI=some ⟨adW,adU,.func (PySem.W.fnOf "lies" "lies" (aX ie) (aN ie) (ah ie) (.ref xq) DR DT DU DQ xo DV),adV⟩)(yL:K.lookup xq=some ⟨adX,adY,.seq #[.str "meal" O1] adZ,ad0⟩)(Hu:PySem.W.codeIn K xo "lies" = true)(uY:PySem.W.keepIn K (.ref FI)=true)(Hw:PySem.W.nsIn K mainGlobals "_law_cell_at" = some (some (.ref FJ)))(Hx:K.lookup FJ=some ⟨ad4,ad1,.func (PySem.W.fnOf "_law_cell_at" "_law_cell_at" (aX oH) (aN oH) (ah oH) .none ad5 ad6 ad7 ad2 O2 ad8),ad3⟩)(Hy:PySem.W.codeIn K O2 "_law_cell_at" = true)(yM:PySem.W.keepIn K (.ref FJ)=true)(Hz:PySem.W.nsIn K mainGlobals "_law_order" = some (some (.ref FK)))(HA:K.lookup FK=some ⟨aec,ad9,.func (PySem.W.fnOf "_law_order" "_law_order" (aX oU) (aN oU) (ah oU) .none aed aee aef aea O3 aeg),aeb⟩)(HB:PySem.W.codeIn K O3 "_law_order" = true)(yN:PySem.W.keepIn K (.ref FK)=true)(HC:PySem.W.nsIn K mainGlobals "_law_table" = some (some (.ref FL)))(HD:K.lookup FL=some ⟨aek,aeh,.func (PySem.W.fnOf "_law_table" "_law_table" (aX oV) (aN oV) (ah oV) .none ael aem aen aei O4 aeo),aej⟩)(HE:PySem.W.codeIn K O4 "_law_table" = true)(yO:PySem.W.keepIn K (.ref FL)=true)(HF:PySem.W.nsIn K mainGlobals "_law_classes" = some (some (.ref FN)))(HG:K.lookup FN=some ⟨aes,aep,.func (PySem.W.fnOf "_law_classes" "_law_classes" (aX mS) (aN mS) (ah mS) .none aet aeu aev aeq O5 aew),aer⟩)(HH:PySem.W.codeIn K O5 "_law_classes" = true)(yP:PySem.W.keepIn K (.ref FN)=true)(HI:PySem.W.nsIn K mainGlobals "_law_refusal" = some (some (.ref FO)))(HJ:K.lookup FO=some ⟨aeA,aex,.func (PySem.W.fnOf "_law_refusal" "_law_refusal" (aX jO) (aN jO) (ah jO) .none aeB aeC aeD aey O6 aeE),aez⟩)(HK:PySem.W.codeIn K O6 "_law_refusal" = true)(yQ:PySem.W.keepIn K (.ref FO)=true)(HL:PySem.W.nsIn K mainGlobals "_law_cut" = some (some (.ref FP)))(HM:K.lookup FP=some ⟨aeI,aeF,.func (PySem.W.fnOf "_law_cut" "_law_cut" (aX pj) (aN pj) (ah pj) .none aeJ aeK aeL aeG O7 aeM),aeH⟩)(HN:PySem.W.codeIn K O7 "_law_cut" = true)(yR:PySem.W.keepIn K (.ref FP)=true)(HP:PySem.W.nsIn K mainGlobals "law" = some (some (.ref FQ)))(HQ:K.lookup FQ=some ⟨aeP,aeN,.func (PySem.W.fnOf "law" "law" (aX gj) (aN gj) (ah gj) .none O9 Pa Pb O8 qG Pg),aeO⟩)(HR:PySem.W.codeIn K qG "law" = true)(HS:PySem.W.keepIn K (.ref FQ)=true)(zJ:PySem.W.nsIn K mainGlobals "isinstance" = some none)(CZ:PySem.W.nsIn K mainGlobals "int" = some none)(Cv:PySem.W.nsIn K mainGlobals "bool" = some none)(Cw:PySem.W.nsIn K mainGlobals "list" = some none)(BD:PySem.W.nsIn K mainGlobals "tuple" = some none)(C0:PySem.W.nsIn K mainGlobals "len" = some none)(BE:PySem.W.nsIn K mainGlobals "range" = some none)(C1:PySem.W.nsIn K mainGlobals "zip" = some none)(zN:PySem.W.nsIn K mainGlobals "enumerate" = some none)(A7:PySem.W.nsIn K mainGlobals "sorted" = some none)(C2:PySem.W.nsIn K mainGlobals "abs" = some none)(C3:PySem.W.nsIn K mainGlobals "sum" = some none)(C4:PySem.W.nsIn K mainGlobals "max" = some none)(C5:PySem.W.nsIn K mainGlobals "min" = some none)(C6:PySem.W.nsIn K mainGlobals "all" = some none)(C7:PySem.W.nsIn K mainGlobals "any" = some none)(C8:PySem.W.nsIn K mainGlobals "set" = some none)(zK:PySem.W.nsIn K mainGlobals "ValueError" = some none)(oQ:PySem.W.nsIn K mainGlobals "MOST_TURNS" = some (some (.int 5 gt1)))(sO:PySem.W.nsIn K mainGlobals "MOST" = some (some (.int 6 gt2)))(rA:PySem.W.nsIn K mainGlobals "MOST_COUNT" = some (some (.int 9 gt3)))(oJ:PySem.W.nsIn K mainGlobals "MOST_THINGS" = some (some (.int 4 gt4)))(z0:PySem.W.nsIn K mainGlobals "LotError" = some (some (.ref m4)))(rN:PySem.W.nsIn K mainGlobals "NoTurns" = some (some (.ref cG)))(mX:PySem.W.nsIn K mainGlobals "TooGreat" = some (some (.ref cF)))(rO:PySem.W.nsIn K mainGlobals "NoAsker" = some (some (.ref vz)))(rP:PySem.W.nsIn K mainGlobals "NoThing" = some (some (.ref vA)))(sE:PySem.W.nsIn K mainGlobals "Twice" = some (some (.ref we)))(rH:PySem.W.nsIn K mainGlobals "NoNumber" = some (some (.ref vo)))(rY:PySem.W.nsIn K mainGlobals "NoText" = some (some (.ref vS)))(rJ:PySem.W.nsIn K mainGlobals "NoShares" = some (some (.ref vp)))(rK:PySem.W.nsIn K mainGlobals "NoTicket" = some (some (.ref vq)))(rZ:PySem.W.nsIn K mainGlobals "NoName" = some (some (.ref vT)))(r6:PySem.W.nsIn K mainGlobals "Double" = some (some (.ref vU)))(sF:PySem.W.nsIn K mainGlobals "NoRow" = some (some (.ref wg)))(rQ:PySem.W.nsIn K mainGlobals "NoTable" = some (some (.ref vB)))(HU:PySem.W.typeIn K (.ref m4)=some (.type "type"))(HV:PySem.W.isClsIn K m4=true)(HW:PySem.W.subIn K (.ref m4) (.type "BaseException")=some true)(yS:PySem.W.specialIn K (.builtin "object.__class__") "__get__" = some (some (.builtin "getset_descriptor.__get__")))(yT:PySem.W.takesIn K (.builtin "object.__class__")=some true)(vk:PySem.W.excIn K cG qz "ValueError.__new__" = true)(pd:PySem.W.excIn K cF qz "ValueError.__new__" = true)(Au:PySem.W.subIn K (.ref cG) (.ref m4)=some true)(z4:PySem.W.findIn K (.ref cG) "__getattribute__" = some (some (.builtin "BaseException.__getattribute__")))(z5:PySem.W.findIn K (.ref cG) "__getattr__" = some none)(z6:PySem.W.findIn K (.ref cG) "__class__" = some (some (.builtin "object.__class__")))(z7:PySem.W.mroIn K cG (.type "object")=some true)(z8:PySem.W.isClsIn K cG=true)(z9:PySem.W.mroIn K cG (.type "BaseException")=some true)(Av:PySem.W.kitOne K (.ref cG) (.type "ValueError")=some true)(zg:PySem.W.kitOne K (.ref cG) (.ref cG)=some true)(yZ:PySem.W.kitOne K (.ref cG) (.ref cF)=some false)(zh:PySem.W.kitOne K (.ref cG) (.ref vz)=some false)(zi:PySem.W.kitOne K (.ref cG) (.ref vA)=some false)(zv:PySem.W.kitOne K (.ref cG) (.ref we)=some false)(y3:PySem.W.kitOne K (.ref cG) (.ref vo)=some false)(zo:PySem.W.kitOne K (.ref cG) (.ref vS)=some false)(y4:PySem.W.kitOne K (.ref cG) (.ref vp)=some false)(y6:PySem.W.kitOne K (.ref cG) (.ref vq)=some false)(zp:PySem.W.kitOne K (.ref cG) (.ref vT)=some false)(zq:PySem.W.kitOne K (.ref cG) (.ref vU)=some false)(zC:PySem.W.kitOne K (.ref cG) (.ref wg)=some false)(zj:PySem.W.kitOne K (.ref cG) (.ref vB)=some false)(Aa:PySem.W.subIn K (.ref cF) (.ref m4)=some true)(zO:PySem.W.findIn K (.ref cF) "__getattribute__" = some (some (.builtin "BaseException.__getattribute__")))(zP:PySem.W.findIn K (.ref cF) "__getattr__" = some none)(zQ:PySem.W.findIn K (.ref cF) "__class__" = some (some (.builtin "object.__class__")))(zR:PySem.W.mroIn K cF (.type "object")=some true)(zS:PySem.W.isClsIn K cF=true)(zT:PySem.W.mroIn K cF (.type "BaseException")=some true)(Ab:PySem.W.kitOne K (.ref cF) (.type "ValueError")=some true)(y8:PySem.W.kitOne K (.ref cF) (.ref cG)=some false)(yV:PySem.W.kitOne K (.ref cF) (.ref cF)=some true)(y9:PySem.W.kitOne K (.ref cF) (.ref vz)=some false)(zb:PySem.W.kitOne K (.ref cF) (.ref vA)=some false)(zr:PySem.W.kitOne K (.ref cF) (.ref we)=some false)(yW:PySem.W.kitOne K (.ref cF) (.ref vo)=some false)(zk:PySem.W.kitOne K (.ref cF) (.ref vS)=some false)(yX:PySem.W.kitOne K (.ref cF) (.ref vp)=some false)(yY:PySem.W.kitOne K (.ref cF) (.ref vq)=some false)(zl:PySem.W.kitOne K (.ref cF) (.ref vT)=some false)(zm:PySem.W.kitOne K (.ref cF) (.ref vU)=some false)(zt:PySem.W.kitOne K (.ref cF) (.ref wg)=some false)(zf:PySem.W.kitOne K (.ref cF) (.ref vB)=some false)
  : ∃ fd:FuncData,(∀ (s:Shared) (v:Value),BindsTo s fd ⟨[v],[]⟩ [("_law_script",v)])/\∀ base:Heap,K.In base->base.Ns mainGlobals mg->aM l.prog w K mg base ao 11 fa fd ["_law_script"] (wB K):=by
 have e:=hfa.symm.trans (PySem.W.mg_of X G HP)
 cases e
 have T:Txt mg:=⟨PySem.W.mg_none_of X G zJ,PySem.W.mg_none_of X G CZ,PySem.W.mg_none_of X G Cv,PySem.W.mg_none_of X G Cw,PySem.W.mg_none_of X G BD,PySem.W.mg_none_of X G C0,PySem.W.mg_none_of X G BE,PySem.W.mg_none_of X G C1,PySem.W.mg_none_of X G zN,PySem.W.mg_none_of X G A7,PySem.W.mg_none_of X G C2,PySem.W.mg_none_of X G C3,PySem.W.mg_none_of X G C4,PySem.W.mg_none_of X G C5,PySem.W.mg_none_of X G C6,PySem.W.mg_none_of X G C7,PySem.W.mg_none_of X G C8,⟨_,PySem.W.mg_of X G oQ⟩,⟨_,PySem.W.mg_of X G sO⟩,⟨_,PySem.W.mg_of X G rA⟩,⟨_,PySem.W.mg_of X G oJ⟩⟩
 let cs:e7:=⟨m4,cG,cF,vz,vA,we,vo,vS,vp,vq,vT,vU,wg,vB⟩
 have U:tu K mg cs:=⟨PySem.W.mg_none_of X G zK,⟨PySem.W.mg_of X G z0,HU,HV,HW⟩,PySem.W.mg_of X G rN,PySem.W.mg_of X G mX,PySem.W.mg_of X G rO,PySem.W.mg_of X G rP,PySem.W.mg_of X G sE,PySem.W.mg_of X G rH,PySem.W.mg_of X G rY,PySem.W.mg_of X G rJ,PySem.W.mg_of X G rK,PySem.W.mg_of X G rZ,PySem.W.mg_of X G r6,PySem.W.mg_of X G sF,PySem.W.mg_of X G rQ,vk,pd,⟨Au,⟨z4,z5,z6,yS,yT,z7,z8,z9⟩,Av,zg,yZ,zh,zi,zv,y3,zo,y4,y6,zp,zq,zC,zj⟩,⟨Aa,⟨zO,zP,zQ,yS,yT,zR,zS,zT⟩,Ab,y8,yV,y9,zb,zr,yW,zk,yX,yY,zl,zm,zt,zf⟩⟩
 have F1:=bF (st:=oZ) l1 c1 k1
 have b1:=F1.binds (ps:=["number"]) fun _ _ _ _ _ _ us hl=>by
  obtain ⟨_,rfl⟩:=jN hl
  rfl
 have F2:=bF (st:=oK) l2 c2 k2
 have b2:=F2.binds (ps:=["one", "other"]) fun _ _ _ _ _ _ us hl=>by
  obtain ⟨_,_,rfl⟩:=fY hl
  rfl
 have F3:=KA (st:=iT) l3 c3 k3
 have b3:Binds K _ ["top", "bottom"] []:=fun s us hK hl=>match us,hl with | [u,v],_=>PySem.W.binds_K (fd:=PySem.W.fnOf "fraction" "fraction" (aX iT) (aN iT) (ah iT) (.ref yi) E7 E8 E9 E6 yh Fb) hK rfl d3 rfl rfl rfl
 have rj:Binds K _ ["top", "bottom"] [.int 1 QO]:=fun s us hK hl=>by
  cases us with
  |nil=>exact absurd hl (by simp)
  |cons u0 r0 =>
   cases r0 with
   |nil=>exact PySem.W.binds_K (fd:=PySem.W.fnOf "fraction" "fraction" (aX iT) (aN iT) (ah iT) (.ref yi) E7 E8 E9 E6 yh Fb) hK rfl d3 rfl rfl rfl
   |cons _ _=>exact absurd hl (by simp only [List.length_append,List.length_cons,List.length_nil];omega)
 have F4:=bF (st:=pW) l4 c4 k4
 have b4:=F4.binds (ps:=["one", "other"]) fun _ _ _ _ _ _ us hl=>by
  obtain ⟨_,_,rfl⟩:=fY hl
  rfl
 have F5:=bF (st:=pM) l5 c5 k5
 have b5:=F5.binds (ps:=["one", "other"]) fun _ _ _ _ _ _ us hl=>by
  obtain ⟨_,_,rfl⟩:=fY hl
  rfl
 have F6:=bF (st:=pN) l6 c6 k6
 have b6:=F6.binds (ps:=["one", "other"]) fun _ _ _ _ _ _ us hl=>by
  obtain ⟨_,_,rfl⟩:=fY hl
  rfl
 have F7:=bF (st:=pZ) l7 c7 k7
 have b7:=F7.binds (ps:=["one", "other"]) fun _ _ _ _ _ _ us hl=>by
  obtain ⟨_,_,rfl⟩:=fY hl
  rfl
 have F8:=bF (st:=pO) l8 c8 k8
 have b8:=F8.binds (ps:=["one", "other"]) fun _ _ _ _ _ _ us hl=>by
  obtain ⟨_,_,rfl⟩:=fY hl
  rfl
 have F9:=bF (st:=pG) l9 c9 k9
 have b9:=F9.binds (ps:=["some"]) fun _ _ _ _ _ _ us hl=>by
  obtain ⟨_,rfl⟩:=jN hl
  rfl
 have QU:=bF (st:=o8) l10 FR yj
 have b10:=QU.binds (ps:=["some"]) fun _ _ _ _ _ _ us hl=>by
  obtain ⟨_,rfl⟩:=jN hl
  rfl
 have QV:=bF (st:=oG) FU FV yk
 have b11:=QV.binds (ps:=["orders", "many"]) fun _ _ _ _ _ _ us hl=>by
  obtain ⟨_,_,rfl⟩:=fY hl
  rfl
 have QW:=bF (st:=o7) FX FY yl
 have b12:=QW.binds (ps:=["counts", "orders"]) fun _ _ _ _ _ _ us hl=>by
  obtain ⟨_,_,rfl⟩:=fY hl
  rfl
 have QX:=bF (st:=oR) F0 Ge ym
 have b13:=QX.binds (ps:=["table", "asker"]) fun _ _ _ _ _ _ us hl=>by
  obtain ⟨_,_,rfl⟩:=fY hl
  rfl
 have QY:=bF (st:=oS) Gg Gh yo
 have b14:=QY.binds (ps:=["order", "gone"]) fun _ _ _ _ _ _ us hl=>by
  obtain ⟨_,_,rfl⟩:=fY hl
  rfl
 have QZ:=bF (st:=oM) Gj Gk yp
 have b15:=QZ.binds (ps:=["left", "eaten", "time_left"]) fun _ _ _ _ _ _ us hl=>by
  obtain ⟨_,_,_,rfl⟩:=lJ hl
  rfl
 have Q0:=bF (st:=oN) Gn c16 yq
 have b16:=Q0.binds (ps:=["left", "eaten", "length"]) fun _ _ _ _ _ _ us hl=>by
  obtain ⟨_,_,_,rfl⟩:=lJ hl
  rfl
 have Q1:=bF (st:=oI) Gq Gr yr
 have b17:=Q1.binds (ps:=["left"]) fun _ _ _ _ _ _ us hl=>by
  obtain ⟨_,rfl⟩:=jN hl
  rfl
 have Q2:=bF (st:=oW) Gu Gv yt
 have b18:=Q2.binds (ps:=["table"]) fun _ _ _ _ _ _ us hl=>by
  obtain ⟨_,rfl⟩:=jN hl
  rfl
 have Q3:=bF (st:=o9) Gx Gy yu
 have b19:=Q3.binds (ps:=["steps", "asker", "one"]) fun _ _ _ _ _ _ us hl=>by
  obtain ⟨_,_,_,rfl⟩:=lJ hl
  rfl
 have Q4:=bF (st:=p7) GA GB yv
 have b20:=Q4.binds (ps:=["table"]) fun _ _ _ _ _ _ us hl=>by
  obtain ⟨_,rfl⟩:=jN hl
  rfl
 have Q5:=bF (st:=pY) GF GH yw
 have b21:=Q5.binds (ps:=["table", "asker", "row"]) fun _ _ _ _ _ _ us hl=>by
  obtain ⟨_,_,_,rfl⟩:=lJ hl
  rfl
 have Q6:=bF (st:=pB) GJ GK yx
 have b22:=Q6.binds (ps:=["table", "asker", "one", "other"]) fun _ _ _ _ _ _ us hl=>by
  obtain ⟨_,_,_,_,rfl⟩:=E5 hl
  rfl
 have Q7:=bF (st:=oX) GN GO yy
 have b23:=Q7.binds (ps:=["mix", "asker", "one"]) fun _ _ _ _ _ _ us hl=>by
  obtain ⟨_,_,_,rfl⟩:=lJ hl
  rfl
 have Q8:=bF (st:=oY) GQ GR yz
 have b24:=Q8.binds (ps:=["counts", "mix"]) fun _ _ _ _ _ _ us hl=>by
  obtain ⟨_,_,rfl⟩:=fY hl
  rfl
 have Q9:=bF (st:=pA) GV GW yA
 have b25:=Q9.binds (ps:=["table", "turns"]) fun _ _ _ _ _ _ us hl=>by
  obtain ⟨_,_,rfl⟩:=fY hl
  rfl
 have Ra:=bF (st:=pF) GY GZ yB
 have b26:=Ra.binds (ps:=["lists", "many"]) fun _ _ _ _ _ _ us hl=>by
  obtain ⟨_,_,rfl⟩:=fY hl
  rfl
 have HX:=bF (st:=mV) G7 G8 uR
 have Rb:=HX.binds (ps:=["many"]) fun _ _ _ _ _ _ us hl=>by
  obtain ⟨_,rfl⟩:=jN hl
  rfl
 have HY:=bF (st:=cw) G9 Hc uU
 have Rc:=HY.binds (ps:=["table"]) fun _ _ _ _ _ _ us hl=>by
  obtain ⟨_,rfl⟩:=jN hl
  rfl
 have HZ:=bF (st:=mU) Hd He uV
 have Rf:=HZ.binds (ps:=["table"]) fun _ _ _ _ _ _ us hl=>by
  obtain ⟨_,rfl⟩:=jN hl
  rfl
 have Rg:=bF (st:=oP) Hg Hh yF
 have b30:=Rg.binds (ps:=["table", "asker"]) fun _ _ _ _ _ _ us hl=>by
  obtain ⟨_,_,rfl⟩:=fY hl
  rfl
 have Rh:=bF (st:=oA) Hj Hk yG
 have b31:=Rh.binds (ps:=["table", "asker", "order"]) fun _ _ _ _ _ _ us hl=>by
  obtain ⟨_,_,_,rfl⟩:=lJ hl
  rfl
 have Ia:=bF (st:=dw) Hl Hm uW
 have Ri:=Ia.binds (ps:=["many"]) fun _ _ _ _ _ _ us hl=>by
  obtain ⟨_,rfl⟩:=jN hl
  rfl
 have Ib:=bF (st:=m9) Hn Ho uX
 have Rj:=Ib.binds (ps:=["table", "asker", "way"]) fun _ _ _ _ _ _ us hl=>by
  obtain ⟨_,_,_,rfl⟩:=lJ hl
  rfl
 have Rk:=bF (st:=ph) Hr Hs yJ
 have b34:=Rk.binds (ps:=["table", "asker", "first", "new"]) fun _ _ _ _ _ _ us hl=>by
  obtain ⟨_,_,_,_,rfl⟩:=E5 hl
  rfl
 have Rl:=KA (st:=ie) Ht Hu uY
 have Rm:Binds K _ ["table", "asker", "way"] []:=fun s us hK hl=>match us,hl with | [u,v,x],_=>PySem.W.binds_K (fd:=PySem.W.fnOf "lies" "lies" (aX ie) (aN ie) (ah ie) (.ref xq) DR DT DU DQ xo DV) hK rfl yL rfl rfl rfl
 have Ph:Binds K _ ["table", "asker", "way"] [.str "meal" O1]:=fun s us hK hl=>by
  cases us with
  |nil=>exact absurd hl (by simp)
  |cons u0 r0 =>
   cases r0 with
   |nil=>exact absurd hl (by simp)
   |cons u1 r1 =>
    cases r1 with
    |nil=>exact PySem.W.binds_K (fd:=PySem.W.fnOf "lies" "lies" (aX ie) (aN ie) (ah ie) (.ref xq) DR DT DU DQ xo DV) hK rfl yL rfl rfl rfl
    |cons _ _=>exact absurd hl (by simp only [List.length_append,List.length_cons,List.length_nil];omega)
 have Ro:=bF (st:=oH) Hx Hy yM
 have b36:=Ro.binds (ps:=["_law_script", "_law_k"]) fun _ _ _ _ _ _ us hl=>by
  obtain ⟨_,_,rfl⟩:=fY hl
  rfl
 have Rp:=bF (st:=oU) HA HB yN
 have b37:=Rp.binds (ps:=["_law_cell", "_law_many"]) fun _ _ _ _ _ _ us hl=>by
  obtain ⟨_,_,rfl⟩:=fY hl
  rfl
 have Rq:=bF (st:=oV) HD HE yO
 have b38:=Rq.binds (ps:=["_law_script", "_law_start", "_law_things", "_law_askers"]) fun _ _ _ _ _ _ us hl=>by
  obtain ⟨_,_,_,_,rfl⟩:=E5 hl
  rfl
 have Rr:=bF (st:=mS) HG HH yP
 have b39:=Rr.binds (ps:=["_law_e"]) fun _ _ _ _ _ _ us hl=>by
  obtain ⟨_,rfl⟩:=jN hl
  rfl
 have Rt:=bF (st:=jO) HJ HK yQ
 have b40:=Rt.binds (ps:=["_law_table_here", "_law_asker", "_law_way"]) fun _ _ _ _ _ _ us hl=>by
  obtain ⟨_,_,_,rfl⟩:=lJ hl
  rfl
 have Ru:=bF (st:=pj) HM HN yR
 have b41:=Ru.binds (ps:=["_law_table_here", "_law_things", "_law_askers"]) fun _ _ _ _ _ _ us hl=>by
  obtain ⟨_,_,_,rfl⟩:=lJ hl
  rfl
 have F42:=bF (st:=gj) HQ HR HS
 refine ⟨PySem.W.fnOf "law" "law" (aX gj) (aN gj) (ah gj) .none O9 Pa Pb O8 qG Pg,fun s v=>.of_eq rfl,fun base _ _=>?_⟩
 have K1:=Kn.mk (base:=base) (P:=l.prog) (w:=w) (S6 (k:=0) F1 T ) (PySem.W.mg_of X G a1) k1 b1
 have K2:=Kn.mk (base:=base) (P:=l.prog) (w:=w) (RP (k:=0) F2 T ) (PySem.W.mg_of X G a2) k2 b2
 have K3:=Kn.mk (base:=base) (P:=l.prog) (w:=w) (S7 (k:=0) F3 T K1 K2) (PySem.W.mg_of X G a3) k3 b3
 have K4:=Kn.mk (base:=base) (P:=l.prog) (w:=w) (Xh (k:=0) F4 T K3) (PySem.W.mg_of X G a4) k4 b4
 have K5:=Kn.mk (base:=base) (P:=l.prog) (w:=w) (VB (k:=0) F5 T K3) (PySem.W.mg_of X G a5) k5 b5
 have K6:=Kn.mk (base:=base) (P:=l.prog) (w:=w) (VD (k:=0) F6 T K3) (PySem.W.mg_of X G a6) k6 b6
 have K7:=Kn.mk (base:=base) (P:=l.prog) (w:=w) (Xr (k:=0) F7 T K3) (PySem.W.mg_of X G a7) k7 b7
 have K8:=Kn.mk (base:=base) (P:=l.prog) (w:=w) (VF (k:=0) F8 T ) (PySem.W.mg_of X G a8) k8 b8
 have K9:=Kn.mk (base:=base) (P:=l.prog) (w:=w) (UE (k:=0) F9 T K3 rj K4) (PySem.W.mg_of X G a9) k9 b9
 have K10:=Kn.mk (base:=base) (P:=l.prog) (w:=w) (Te (k:=0) QU T K8) (PySem.W.mg_of X G kX) yj b10
 have K11:=Kn.mk (base:=base) (P:=l.prog) (w:=w) (RF (k:=0) QV T ) (PySem.W.mg_of X G FT) yk b11
 have K12:=Kn.mk (base:=base) (P:=l.prog) (w:=w) (S9 (k:=0) QW T K11) (PySem.W.mg_of X G FW) yl b12
 have Ic:=Kn.mk (base:=base) (P:=l.prog) (w:=w) (Sb (k:=0) QX T ) (PySem.W.mg_of X G FZ) ym b13
 have Rv:=Kn.mk (base:=base) (P:=l.prog) (w:=w) (Se (k:=0) QY T ) (PySem.W.mg_of X G Gf) yo b14
 have K15:=Kn.mk (base:=base) (P:=l.prog) (w:=w) (RT (k:=0) QZ T K3 rj K7 K10) (PySem.W.mg_of X G Gi) yp b15
 have K16:=Kn.mk (base:=base) (P:=l.prog) (w:=w) (RV (k:=0) Q0 T K3 rj K5 K6) (PySem.W.mg_of X G Gm) yq b16
 have K17:=Kn.mk (base:=base) (P:=l.prog) (w:=w) (RK (k:=0) Q1 T K3 rj) (PySem.W.mg_of X G Gp) yr b17
 have K18:=Kn.mk (base:=base) (P:=l.prog) (w:=w) (Si (k:=0) Q2 T K3 rj K5 Ic Rv K15 K16 K17) (PySem.W.mg_of X G Gs) yt b18
 have K19:=Kn.mk (base:=base) (P:=l.prog) (w:=w) (Tg (k:=0) Q3 T K9) (PySem.W.mg_of X G Gw) yu b19
 have K20:=Kn.mk (base:=base) (P:=l.prog) (w:=w) (Xy (k:=0) Q4 T K18 K19) (PySem.W.mg_of X G Gz) yv b20
 have K21:=Kn.mk (base:=base) (P:=l.prog) (w:=w) (Xo (k:=0) Q5 T K3 rj Ic K4) (PySem.W.mg_of X G GD) yw b21
 have K22:=Kn.mk (base:=base) (P:=l.prog) (w:=w) (TH (k:=0) Q6 T K21 K8) (PySem.W.mg_of X G GI) yx b22
 have K23:=Kn.mk (base:=base) (P:=l.prog) (w:=w) (SH (k:=0) Q7 T K9) (PySem.W.mg_of X G GL) yy b23
 have Rw:=Kn.mk (base:=base) (P:=l.prog) (w:=w) (SJ (k:=0) Q8 T K23) (PySem.W.mg_of X G GP) yz b24
 have K25:=Kn.mk (base:=base) (P:=l.prog) (w:=w) (TB (k:=0) Q9 T Ic Rv) (PySem.W.mg_of X G GU) yA b25
 have Rx:=Kn.mk (base:=base) (P:=l.prog) (w:=w) (UB (k:=0) Ra T ) (PySem.W.mg_of X G GX) yB b26
 have K27:=Kn.mk (base:=base) (P:=l.prog) (w:=w) (SE (k:=0) HX T Rx) (PySem.W.mg_of X G yC) uR Rb
 have aeQ:=Kn.mk (base:=base) (P:=l.prog) (w:=w) (Sn (k:=0) HX T U) (PySem.W.mg_of X G yC) uR Rb
 have K28:=Kn.mk (base:=base) (P:=l.prog) (w:=w) (Tb (k:=0) HY T K27 K25 K3) (PySem.W.mg_of X G yD) uU Rc
 have aeR:=Kn.mk (base:=base) (P:=l.prog) (w:=w) (SR (k:=0) HY T aeQ) (PySem.W.mg_of X G yD) uU Rc
 have K29:=Kn.mk (base:=base) (P:=l.prog) (w:=w) (RR (k:=0) HZ T Rw K28) (PySem.W.mg_of X G yE) uV Rf
 have aeS:=Kn.mk (base:=base) (P:=l.prog) (w:=w) (RM (k:=0) HZ T Rw aeR) (PySem.W.mg_of X G yE) uV Rf
 have Ie:=Kn.mk (base:=base) (P:=l.prog) (w:=w) (RX (k:=0) Rg T ) (PySem.W.mg_of X G Hf) yF b30
 have K31:=Kn.mk (base:=base) (P:=l.prog) (w:=w) (RB (k:=0) Rh T Ie K12) (PySem.W.mg_of X G Hi) yG b31
 have Ry:=Kn.mk (base:=base) (P:=l.prog) (w:=w) (Sq (k:=0) Ia T Rx) (PySem.W.mg_of X G yH) uW Ri
 have aeT:=Kn.mk (base:=base) (P:=l.prog) (w:=w) (RY (k:=0) Ia T U) (PySem.W.mg_of X G yH) uW Ri
 have K33:=Kn.mk (base:=base) (P:=l.prog) (w:=w) (UN (k:=0) Ib T K29 K20) (PySem.W.mg_of X G yI) uX Rj
 have aeU:=Kn.mk (base:=base) (P:=l.prog) (w:=w) (TX (k:=0) Ib T aeS) (PySem.W.mg_of X G yI) uX Rj
 have K34:=Kn.mk (base:=base) (P:=l.prog) (w:=w) (Tj (k:=0) Rk T K22) (PySem.W.mg_of X G Hq) yJ b34
 have Rz:=Kn.mk (base:=base) (P:=l.prog) (w:=w) (XC (k:=0) Rl T Ry Ie K33 K31 K34) (PySem.W.mg_of X G yK) uY Rm
 have aeV:=Kn.mk (base:=base) (P:=l.prog) (w:=w) (VP (k:=0) Rl T Ry aeT Ie aeU) (PySem.W.mg_of X G yK) uY Rm
 have RA:=Kn.mk (base:=base) (P:=l.prog) (w:=w) (RH (k:=0) Ro T ) (PySem.W.mg_of X G Hw) yM b36
 have K37:=Kn.mk (base:=base) (P:=l.prog) (w:=w) (Sg (k:=0) Rp T ) (PySem.W.mg_of X G Hz) yN b37
 have K38:=Kn.mk (base:=base) (P:=l.prog) (w:=w) (Sh (k:=0) Rq T RA K37) (PySem.W.mg_of X G HC) yO b38
 have K39:=EY.mk (base:=base) (P:=l.prog) (w:=w) (RL Rr T U) (PySem.W.mg_of X G HF) yP b39
 have K40:=Kn.mk (base:=base) (P:=l.prog) (w:=w) (RN (k:=0) Rt T U Rz Ph aeV K39) (PySem.W.mg_of X G HI) yQ b40
 have K41:=Kn.mk (base:=base) (P:=l.prog) (w:=w) (Tn (k:=0) Ru T ) (PySem.W.mg_of X G HL) yR b41
 exact Yg (Y7 (k:=0) F42 T RA K38 K41 K40 Rz Ph)
theorem walk {l:PySem.W.OpenLaw}{q:Program}{loose:List Str}{XP:(Str->Option Value)->Heap->Prop}{YP:World->Heap->Prop}{d:DefRec}{K:Params->PySem.W.Frag}(hn:l.most=some 63)(t6:d.params.defaults=[])(hY:∀ (w:World) (h:Heap),YP w h->(K w.params).In h)(F:∀ (w:World) (mg:Str->Option Value) (fa:Addr) (h:Heap),(K w.params).In h->h.Ns mainGlobals mg->mg d.name=some (.ref fa) ->
   ∃ fd:FuncData,(∀ (s:Shared) (u:Value),BindsTo s fd ⟨[u],[]⟩ [("_law_script",u)])/\∀ base:Heap,(K w.params).In base->base.Ns mainGlobals mg->aM l.prog w (K w.params) mg base ao 11 fa fd ["_law_script"] (wB (K w.params))) :
  PySem.W.WalkO q loose XP YP l.row.toRowW d [] (fun f vs=>PySem.call f vs) :=
 L2.V4 (n:=63) (k:=11) (x := "_law_script") (CX:=fun _=>ao) (sp:=fun w=>wB (K w.params)) hn (by decide) t6 ⟨rfl,by decide,by decide⟩ hY F (fun _ _ a ns hl _ hS=>⟨a,ns,rfl,hS,hl,fun _=>rfl⟩) fun _ _ _ _ _ z=>z
end bM
open PySem PySem.W PyProof.Rows
set_option maxRecDepth 100000 in
set_option maxHeartbeats 0 in
theorem PySem.Challenge.cw_lotmeal_k50_lies_refused_holds : PySem.Challenge.rw_lotmeal_k50_lies_refused.Holds := by
 w_on;o_law
 refine holds_open (q:=gP.hV) (loose:=["fraction", "lies"]) (Xt:=gP.hX) (XP:=XL gP.hV []) (Yf:=(kHook gP.hK gP.hA gP.wk).obs) (Ya:=(kHook gP.hK gP.hA gP.wk).val) (YP:=(kHook gP.hK gP.hA gP.wk).says) gP.hL (Hook.of _) (Hook.keeps _) (fun s e=>xl_of s (Bool.and_eq_true_iff.mp e).1) XL.keeps (by rfl) (by rfl) (by rfl) (fun s e=>recFacts_of (Bool.and_eq_true_iff.mp e).2) (by rfl) (by first | assumption | decide +kernel) (by decide +kernel) ⟨rfl,rfl,rfl,rfl,rfl,by decide +kernel⟩ ?hw ?hc
 case hw=>w_witness2
 k_fill
 refine bM.walk (l:=PySem.Challenge.rw_lotmeal_k50_lies_refused) rfl rfl (fun w h Y=>PySem.W.kIn_of Y) ?F
 case F =>
  intro w mg fa h KX G t7
  refine' bM.all_mk KX G t7 ?a1 ?l1 ?c1 ?k1 ?a2 ?l2 ?c2 ?k2 ?a3 ?l3 ?d3 ?c3 ?k3 ?a4 ?l4 ?c4 ?k4 ?a5 ?l5 ?c5 ?k5 ?a6 ?l6 ?c6 ?k6 ?a7 ?l7 ?c7 ?k7 ?a8 ?l8 ?c8 ?k8 ?a9 ?l9 ?c9 ?k9 ?kX ?l10 ?FR ?yj ?FT ?FU ?FV ?yk ?FW ?FX ?FY ?yl ?FZ ?F0 ?Ge ?ym ?Gf ?Gg ?Gh ?yo ?Gi ?Gj ?Gk ?yp ?Gm ?Gn ?c16 ?yq ?Gp ?Gq ?Gr ?yr ?Gs ?Gu ?Gv ?yt ?Gw ?Gx ?Gy ?yu ?Gz ?GA ?GB ?yv ?GD ?GF ?GH ?yw ?GI ?GJ ?GK ?yx ?GL ?GN ?GO ?yy ?GP ?GQ ?GR ?yz ?GU ?GV ?GW ?yA ?GX ?GY ?GZ ?yB ?yC ?G7 ?G8 ?uR ?yD ?G9 ?Hc ?uU ?yE ?Hd ?He ?uV ?Hf ?Hg ?Hh ?yF ?Hi ?Hj ?Hk ?yG ?yH ?Hl ?Hm ?uW ?yI ?Hn ?Ho ?uX ?Hq ?Hr ?Hs ?yJ ?yK ?Ht ?yL ?Hu ?uY ?Hw ?Hx ?Hy ?yM ?Hz ?HA ?HB ?yN ?HC ?HD ?HE ?yO ?HF ?HG ?HH ?yP ?HI ?HJ ?HK ?yQ ?HL ?HM ?HN ?yR ?HP ?HQ ?HR ?HS ?zJ ?CZ ?Cv ?Cw ?BD ?C0 ?BE ?C1 ?zN ?A7 ?C2 ?C3 ?C4 ?C5 ?C6 ?C7 ?C8 ?zK ?oQ ?sO ?rA ?oJ ?z0 ?rN ?mX ?rO ?rP ?sE ?rH ?rY ?rJ ?rK ?rZ ?r6 ?sF ?rQ ?HU ?HV ?HW ?yS ?yT ?vk ?pd ?Au ?z4 ?z5 ?z6 ?z7 ?z8 ?z9 ?Av ?zg ?yZ ?zh ?zi ?zv ?y3 ?zo ?y4 ?y6 ?zp ?zq ?zC ?zj ?Aa ?zO ?zP ?zQ ?zR ?zS ?zT ?Ab ?y8 ?yV ?y9 ?zb ?zr ?yW ?zk ?yX ?yY ?zl ?zm ?zt ?zf
  (case a1=>k_is)
  (case l1=>k_is)
  (case c1=>k_is)
  (case k1=>k_is)
  (case a2=>k_is)
  (case l2=>k_is)
  (case c2=>k_is)
  (case k2=>k_is)
  (case a3=>k_is)
  (case l3=>k_is)
  (case d3=>k_is)
  (case c3=>k_is)
  (case k3=>k_is)
  (case a4=>k_is)
  (case l4=>k_is)
  (case c4=>k_is)
  (case k4=>k_is)
  (case a5=>k_is)
  (case l5=>k_is)
  (case c5=>k_is)
  (case k5=>k_is)
  (case a6=>k_is)
  (case l6=>k_is)
  (case c6=>k_is)
  (case k6=>k_is)
  (case a7=>k_is)
  (case l7=>k_is)
  (case c7=>k_is)
  (case k7=>k_is)
  (case a8=>k_is)
  (case l8=>k_is)
  (case c8=>k_is)
  (case k8=>k_is)
  (case a9=>k_is)
  (case l9=>k_is)
  (case c9=>k_is)
  (case k9=>k_is)
  (case kX=>k_is)
  (case l10=>k_is)
  (case FR=>k_is)
  (case yj=>k_is)
  (case FT=>k_is)
  (case FU=>k_is)
  (case FV=>k_is)
  (case yk=>k_is)
  (case FW=>k_is)
  (case FX=>k_is)
  (case FY=>k_is)
  (case yl=>k_is)
  (case FZ=>k_is)
  (case F0=>k_is)
  (case Ge=>k_is)
  (case ym=>k_is)
  (case Gf=>k_is)
  (case Gg=>k_is)
  (case Gh=>k_is)
  (case yo=>k_is)
  (case Gi=>k_is)
  (case Gj=>k_is)
  (case Gk=>k_is)
  (case yp=>k_is)
  (case Gm=>k_is)
  (case Gn=>k_is)
  (case c16=>k_is)
  (case yq=>k_is)
  (case Gp=>k_is)
  (case Gq=>k_is)
  (case Gr=>k_is)
  (case yr=>k_is)
  (case Gs=>k_is)
  (case Gu=>k_is)
  (case Gv=>k_is)
  (case yt=>k_is)
  (case Gw=>k_is)
  (case Gx=>k_is)
  (case Gy=>k_is)
  (case yu=>k_is)
  (case Gz=>k_is)
  (case GA=>k_is)
  (case GB=>k_is)
  (case yv=>k_is)
  (case GD=>k_is)
  (case GF=>k_is)
  (case GH=>k_is)
  (case yw=>k_is)
  (case GI=>k_is)
  (case GJ=>k_is)
  (case GK=>k_is)
  (case yx=>k_is)
  (case GL=>k_is)
  (case GN=>k_is)
  (case GO=>k_is)
  (case yy=>k_is)
  (case GP=>k_is)
  (case GQ=>k_is)
  (case GR=>k_is)
  (case yz=>k_is)
  (case GU=>k_is)
  (case GV=>k_is)
  (case GW=>k_is)
  (case yA=>k_is)
  (case GX=>k_is)
  (case GY=>k_is)
  (case GZ=>k_is)
  (case yB=>k_is)
  (case yC=>k_is)
  (case G7=>k_is)
  (case G8=>k_is)
  (case uR=>k_is)
  (case yD=>k_is)
  (case G9=>k_is)
  (case Hc=>k_is)
  (case uU=>k_is)
  (case yE=>k_is)
  (case Hd=>k_is)
  (case He=>k_is)
  (case uV=>k_is)
  (case Hf=>k_is)
  (case Hg=>k_is)
  (case Hh=>k_is)
  (case yF=>k_is)
  (case Hi=>k_is)
  (case Hj=>k_is)
  (case Hk=>k_is)
  (case yG=>k_is)
  (case yH=>k_is)
  (case Hl=>k_is)
  (case Hm=>k_is)
  (case uW=>k_is)
  (case yI=>k_is)
  (case Hn=>k_is)
  (case Ho=>k_is)
  (case uX=>k_is)
  (case Hq=>k_is)
  (case Hr=>k_is)
  (case Hs=>k_is)
  (case yJ=>k_is)
  (case yK=>k_is)
  (case Ht=>k_is)
  (case yL=>k_is)
  (case Hu=>k_is)
  (case uY=>k_is)
  (case Hw=>k_is)
  (case Hx=>k_is)
  (case Hy=>k_is)
  (case yM=>k_is)
  (case Hz=>k_is)
  (case HA=>k_is)
  (case HB=>k_is)
  (case yN=>k_is)
  (case HC=>k_is)
  (case HD=>k_is)
  (case HE=>k_is)
  (case yO=>k_is)
  (case HF=>k_is)
  (case HG=>k_is)
  (case HH=>k_is)
  (case yP=>k_is)
  (case HI=>k_is)
  (case HJ=>k_is)
  (case HK=>k_is)
  (case yQ=>k_is)
  (case HL=>k_is)
  (case HM=>k_is)
  (case HN=>k_is)
  (case yR=>k_is)
  (case HP=>k_is)
  (case HQ=>k_is)
  (case HR=>k_is)
  (case HS=>k_is)
  (case zJ=>k_is)
  (case CZ=>k_is)
  (case Cv=>k_is)
  (case Cw=>k_is)
  (case BD=>k_is)
  (case C0=>k_is)
  (case BE=>k_is)
  (case C1=>k_is)
  (case zN=>k_is)
  (case A7=>k_is)
  (case C2=>k_is)
  (case C3=>k_is)
  (case C4=>k_is)
  (case C5=>k_is)
  (case C6=>k_is)
  (case C7=>k_is)
  (case C8=>k_is)
  (case zK=>k_is)
  (case oQ=>k_is)
  (case sO=>k_is)
  (case rA=>k_is)
  (case oJ=>k_is)
  (case z0=>k_is)
  (case rN=>k_is)
  (case mX=>k_is)
  (case rO=>k_is)
  (case rP=>k_is)
  (case sE=>k_is)
  (case rH=>k_is)
  (case rY=>k_is)
  (case rJ=>k_is)
  (case rK=>k_is)
  (case rZ=>k_is)
  (case r6=>k_is)
  (case sF=>k_is)
  (case rQ=>k_is)
  (case HU=>k_is)
  (case HV=>k_is)
  (case HW=>k_is)
  (case yS=>k_is)
  (case yT=>k_is)
  (case vk=>k_exc)
  (case pd=>k_exc)
  (case Au=>k_is)
  (case z4=>k_is)
  (case z5=>k_is)
  (case z6=>k_is)
  (case z7=>k_is)
  (case z8=>k_is)
  (case z9=>k_is)
  (case Av=>kit_is)
  (case zg=>kit_is)
  (case yZ=>kit_is)
  (case zh=>kit_is)
  (case zi=>kit_is)
  (case zv=>kit_is)
  (case y3=>kit_is)
  (case zo=>kit_is)
  (case y4=>kit_is)
  (case y6=>kit_is)
  (case zp=>kit_is)
  (case zq=>kit_is)
  (case zC=>kit_is)
  (case zj=>kit_is)
  (case Aa=>k_is)
  (case zO=>k_is)
  (case zP=>k_is)
  (case zQ=>k_is)
  (case zR=>k_is)
  (case zS=>k_is)
  (case zT=>k_is)
  (case Ab=>kit_is)
  (case y8=>kit_is)
  (case yV=>kit_is)
  (case y9=>kit_is)
  (case zb=>kit_is)
  (case zr=>kit_is)
  (case yW=>kit_is)
  (case zk=>kit_is)
  (case yX=>kit_is)
  (case yY=>kit_is)
  (case zl=>kit_is)
  (case zm=>kit_is)
  (case zt=>kit_is)
  (case zf=>kit_is)
#print axioms PySem.Challenge.cw_lotmeal_k50_lies_refused_holds
