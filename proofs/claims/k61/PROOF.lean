import PyProof.Rows.All
import Wide.All
import OpenK.AllK
import Wide.FinOn
import Lean
import PyProof.EqAt
import PyProof.EqKinds
import PyProof.TupleCall
import PyProof.NeKinds
import PyProof.ZipIter
import PyProof.WalksEnum
import PyProof.CompUse
import PyProof.ListRange
import PyProof.Rows.SetFrom
import PyProof.Rows.SortWalk
import PyProof.Rows.SeqMore2
import PyProof.SetRoads
import KE.KRevIter
import PyProof.WalksMore
import PyProof.AutoRange
import PyProof.ListNew
import PyProof.Wp
import PyProof.Logic
import PyProof.StationsW
import PyProof.ExcClass2
import OpenK.KGet
import PyProof.Rows.SortRunsK
import PyProof.Rows.SortShellK
import KE.KDictSum
import PyProof.DictTruth
import PyProof.RangeIter
import PyProof.RaisesMany
import PyProof.AutoListH
import PyProof.Draws
import PySem.Challenge.RW_lotmeal_k61_tables_no_text
set_option Elab.async false
set_option linter.all false
set_option maxRecDepth 100000
set_option maxHeartbeats 4000000
abbrev aa:=@List.length_map
abbrev ar:=@List.getElem?_eq_getElem
abbrev ba:=@PySem.wpAny_bind
abbrev br:=@List.getD_eq_getElem?_getD
abbrev ee:=@Nat.le_refl
abbrev ff:=@List.mem_append_right
abbrev gc:=@PySem.Heap.get?_push_of_some
abbrev gr:=@List.mem_cons
abbrev gz:=@List.getElem?_eq_some_iff
abbrev ij:=@List.mem_append
abbrev ir:=@List.length_append
abbrev i4:=@List.getElem?_map
abbrev i8:=@List.size_toArray
abbrev lp:=@PySem.Heap.lt_size
abbrev ma:=@List.mem_of_getElem?
abbrev mf:=@List.length_cons
abbrev mT:=@List.mem_singleton
abbrev qr:=@List.map_map
abbrev rb:=@Nat.lt_of_lt_of_le
abbrev rf:=@List.mem_append_left
abbrev ue:=@List.nodup_append
abbrev uu:=@decide_eq_false
abbrev wb:=@PySem.wpAny_pure
abbrev xp:=@Nat.ne_of_lt
abbrev xy:=@PySem.F.plainAttrs_list
abbrev zd:=@List.mem_map
abbrev ze:=@PySem.Heap.get?_push_size
abbrev zw:=@decide_eq_true
abbrev AE:=@Option.some.inj
abbrev AL:=@Int.emod_lt_of_pos
abbrev AM:=@if_neg
abbrev AN:=@Array.length_toList
abbrev AS:=@Bool.false_ne_true
abbrev BB:=@List.nodup_cons
abbrev BN:=@Int.emod_nonneg
abbrev BS:=@List.getElem?_append_right
abbrev BY:=@List.length_range
abbrev B0:=@List.getElem?_set_ne
abbrev Cf:=@List.map_append
abbrev Cn:=@if_pos
abbrev Co:=@List.lookup_cons
abbrev Cs:=@Nat.zero_le
abbrev CS:=@List.append_nil
abbrev DD:=@Bool.and_eq_true
abbrev DO:=@List.length_take
abbrev EM:=@Nat.le_trans
abbrev EN:=@List.length_set
abbrev EO:=@List.length_drop
abbrev ES:=@List.map_cons
abbrev ET:=@PySem.wpAny_mono
abbrev EU:=@List.getElem?_set_self
abbrev GG:=@beq_iff_eq
abbrev GS:=@List.append_assoc
abbrev ID:=@List.mem_filterMap
abbrev IF:=@List.getElem?_append_left
abbrev IS:=@List.getElem?_range
abbrev JJ:=@List.mem_or_eq_of_mem_set
abbrev Ll:=@PySem.Heap.get?_update_other
abbrev Lm:=@List.take_of_length_le
abbrev Lo:=@List.getElem?_eq_none
abbrev Lu:=@List.filterMap_cons
abbrev LB:=@PySem.wpAny_holding
abbrev LF:=@List.length_pos_iff
abbrev LG:=@List.not_mem_nil
abbrev LH:=@List.mem_cons_of_mem
abbrev LM:=@Nat.lt_irrefl
abbrev LP:=@PySem.F.slot_list_append
abbrev LS:=@PySem.F.type_list_append
abbrev Mc:=@beq_eq_false_iff_ne
abbrev Me:=@PyProof.Rows.callWith_type1
abbrev Mn:=@Nat.le_succ
abbrev MW:=@List.cons.inj
abbrev Na:=@of_decide_eq_true
abbrev Nd:=@List.nodup_iff_pairwise_ne
abbrev Nl:=@Nat.ne_of_gt
abbrev NG:=@Nat.lt_of_le_of_lt
abbrev NH:=@List.findIdx?_eq_none_iff
abbrev NJ:=@Int.toNat_natCast
abbrev NL:=@PySem.Heap.get?_update_self
abbrev NO:=@List.mem_range
abbrev Of:=@List.findIdx?_eq_some_iff_getElem
abbrev OE:=@of_decide_eq_false
abbrev OF:=@Array.getElem?_eq_some_iff
abbrev OK:=@Nat.le_of_succ_le
abbrev ON:=@List.map_congr_left
abbrev OP:=@PySem.Heap.size_push
abbrev OR:=@PySem.pushCells_keeps
abbrev Pc:=@PySem.F.slot_list_extend
abbrev Pd:=@PySem.F.type_list_extend
abbrev Pe:=@decide_eq_true_iff
abbrev Pf:=@List.all_eq_true
abbrev Po:=@PySem.codeAny_call_builtin
abbrev PM:=@PyProof.Rows.F.plain_set_update_loop
abbrev RI:=@List.any_eq_false
abbrev Sk:=@PySem.wpAny_newObj_type
abbrev Sm:=@decide_eq_true_eq
abbrev So:=@Array.size_append
abbrev SI:=@PySem.W.mg_none_of
abbrev SO:=@PySem.Calls.Name_function_global
abbrev SS:=@Nat.le_add_right
abbrev TM:=@List.getElem_mem
abbrev US:=@PySem.wpAny_Call_Name_kw
abbrev VT:=@PySem.Obj.data_mapFields
abbrev WA:=@List.contains_iff_mem
abbrev WE:=@PySem.wpAny_field
abbrev WI:=@PySem.wpAny_truthy_bool
abbrev WJ:=@List.getElem?_take_of_lt
abbrev WS:=@Bool.not_eq_true'
abbrev YA:=@Bool.not_eq_false
abbrev YE:=@PySem.codeAny_mono
abbrev YI:=@Int.zero_add
abbrev YO:=@PySem.wpAny_standAt
abbrev YU:=@PySem.mem_of_lookup
abbrev Zl:=@List.all_cons
abbrev Zp:=@List.map_drop
abbrev Zs:=@decide_eq_false_iff_not
abbrev aaa:=@List.getElem_inj
abbrev aab:=@Bool.and_false
abbrev aba:=@Option.map_eq_some_iff
abbrev abc:=@Ne.symm
abbrev abp:=@PySem.codeAny_compStart_list
abbrev abq:=@Nat.le_of_ble_eq_true
abbrev abr:=@List.of_mem_zip
abbrev abt:=@PySem.codeAny_builtin
abbrev abu:=@List.Perm.append_left
abbrev abv:=@List.getElem?_zipWith
abbrev abw:=@PySem.F.called_set
abbrev abx:=@PySem.wpAny_loadPart_at
abbrev aby:=@PySem.F.excBase_ValueError
abbrev abz:=@PySem.Calls.evalArgs_plain
abbrev abA:=@List.mem_of_mem_drop
abbrev abB:=@List.mem_of_mem_take
abbrev abC:=@PyProof.Rows.F.entry_set_update_loop
abbrev abD:=@List.getElem?_zip_eq_some
abbrev abE:=@List.filter_cons
abbrev abF:=@List.any_eq_true
abbrev abG:=@List.filter_eq_self
abbrev abH:=@PySem.wpAny_call
abbrev abI:=@PySem.call_meets
abbrev abJ:=@PySem.wpAny_comprehension_free
abbrev abK:=@PySem.W.looks_findIn
abbrev abL:=@Nat.lt_or_ge
abbrev abM:=@PySem.F.slot_list_insert
abbrev abN:=@Nat.succ.inj
abbrev abO:=@List.map_set
abbrev abP:=@List.mem_cons_self
abbrev abQ:=@PySem.Calls.Constant_str
abbrev abR:=@PySem.Calls.loadGlobal_global
abbrev abS:=@PySem.wpAny_execs_nil
abbrev abT:=@PySem.wpAny_passesOwn
abbrev abU:=@Bool.eq_iff_iff
abbrev abV:=@PySem.Calls.spliced_cons
abbrev abW:=@Bool.or_eq_true
abbrev abX:=@Bool.false_eq_true
abbrev abY:=@PySem.Code.quiet_builtin
abbrev abZ:=@or_false
abbrev ab0:=@List.length_eq_zero_iff
abbrev ab1:=@List.findIdx?_cons
abbrev ab2:=@PySem.W.cellsFrom_some
abbrev ab3:=@PySem.Calls.callWith_builtin
abbrev ab4:=@List.range_succ_eq_map
abbrev ab5:=@PySem.W.hideAll_get
abbrev ab6:=@PySem.wpAny_pyIter_list
abbrev ab7:=@PySem.W.kia_one
abbrev ab8:=@Nat.lt_succ_of_lt
abbrev ab9:=@PySem.F.attr_ValueError
abbrev aca:=@List.getElem?_set
abbrev acb:=@PySem.StrLaws.subAt_one
abbrev acd:=@List.all_eq_false
abbrev ace:=@List.pairwise_map
abbrev acf:=@PySem.wpAny_loadPart
abbrev acg:=@PySem.wpAny_setField
abbrev ach:=@List.length_singleton
abbrev aci:=@Array.getElem?_toList
abbrev acj:=@PySem.Obj.isFreed_of_fields
abbrev ack:=@List.mem_iff_getElem?
abbrev acm:=@List.take_length
abbrev acn:=@List.mem_iff_getElem
abbrev aco:=@PySem.Around.under_plainId
abbrev acp:=@Bool.or_eq_false_iff
abbrev acq:=@List.any_cons
abbrev acr:=@PySem.wpAny_attempt
abbrev acs:=@PySem.typeIs_str
abbrev acu:=@if_true
abbrev acv:=@List.length_zipWith
abbrev acw:=@List.map_eq_nil_iff
abbrev acx:=@ne_true_of_eq_false
abbrev acy:=@List.length_zip
abbrev acz:=@PySem.W.of_hideAll
abbrev acA:=@Array.append_assoc
abbrev acB:=@Nat.min_self
abbrev acC:=@List.contains_cons
abbrev acD:=@PySem.F.args_str_split_2
abbrev acE:=@Nat.sub_self
abbrev acF:=@List.getElem?_drop
abbrev acG:=@PySem.wpAny_assign_Name
abbrev acH:=@PySem.W.kitx_list
abbrev acI:=@PySem.slot_list_getitem
abbrev acJ:=@PySem.F.entry_str_split
abbrev acK:=@List.map_take
abbrev acL:=@Option.getD_none
abbrev acM:=@Nat.succ_le_succ
abbrev acN:=@Option.getD_some
abbrev acO:=@decide_eq_decide
abbrev acP:=@Bool.not_eq_true
abbrev acQ:=@List.mem_filter
abbrev acR:=@Nat.not_lt_zero
abbrev acS:=@List.forIn_cons
abbrev acT:=@List.set_set
abbrev acU:=@Nat.min_eq_left
abbrev acV:=@List.mem_set
abbrev acW:=@List.take_zero
abbrev acX:=@List.map_id
abbrev acY:=@if_false
open PySem.W (Frag Looks callWith_K codeIn excIn findIn fnOf hasDictIn hideAll hideAll_get isClsIn keepIn kia_one kitOne mg_none_of mg_of mroIn nsIn subIn typeIn)
abbrev LI:=List Int
abbrev LL:=List LI
namespace L2
open PySem PySem.W
section
variable {tb:String->Option Builtin}{p:Program}{w:World}{n₀:Nat}{ann:Option Value}
def vv (tb:String->Option Builtin)(p:Program)(w:World)(n₀:Nat)(ann:Option Value):Nat->SharedT->Thread->Option SharedT
 |0,_,_=>none
 |n+1,s,t=>match through t with
  |true=>some s
  |false=>match stepOk n₀ ann t with
   |false=>none
   |true=>match stepT (denote tb) p w s t with
    |some (s',t')=>vv tb p w n₀ ann n s' t'
    |none=>none
theorem Lc:∀ {n:Nat} {s s':SharedT} {t:Thread},vv tb p w n₀ ann n s t=some s'->topRun tb p w n₀ ann n s.abs t=some s'.abs
 |0,_,_,_,h=>by cases h
 |n+1,s,s',t,h=>by
  unfold vv at h
  unfold topRun
  cases ht:through t with
  |true=>rw [ht] at h;cases h;rfl
  |false =>
   rw [ht] at h
   cases hk:stepOk n₀ ann t with
   |false=>rw [hk] at h;cases h
   |true =>
    rw [hk] at h
    cases hs:stepT (denote tb) p w s t with
    |none=>rw [hs] at h;cases h
    |some r=>obtain ⟨je,abk⟩:=r;rw [hs] at h;rw [stepT_spec hs];exact Lc h
end
def treeOf (l:List Obj):Nat->Nat->Nat->BT
 |0,_,_=>.nil
 |f+1,a,b=>match l[b]? with
  |some o=>.node o (treeOf l f (2*a) (a+b)) (treeOf l f (2*a) (2*a+b))
  |none=>.nil
theorem TU {p q:Program}{loose:List Str}{Xt:Shared->Bool}{α:Type}{Yf:Shared->α}{Ya:World->α}{N:Nat}{g0:Bool}{T₀:Params->BT}{n₀:Nat}{life:Life}{xI:Array GenState}{E5:Drawn}{E6:Nat}{ann:Option Value}{M:Nat}(XS:∀ w:World,(fencedOpening treeTable p w N).map (fun s=>(s.heap,s.gens,s.drawn,s.toks))=some (absHeap (T₀ w.params) n₀ life,xI,E5,E6))(size:∀ w:World,((absHeap (T₀ w.params) n₀ life).isNs mainGlobals&&xI.size==0,(absHeap (T₀ w.params) n₀ life).nsMap mainGlobals "__annotations__")=(true,ann))(run:∀ (w:World),(fun os=>(vv treeTable p w n₀ ann M ⟨T₀ w.params,n₀,life,xI,E5,E6,os⟩ (topStub p)).map fun st=>((staticsOk (importedModules p.main.body) (absHeap (T₀ w.params) n₀ life) st.abs.heap&&namesBound p st.abs.heap&&gensDone st.abs&&laidKept (absHeap (T₀ w.params) n₀ life) st.abs.heap),openSeen q loose (importedModules p.main.body) Xt g0 st.abs,Yf st.abs))=fun _=>some (true,openGood q loose,Ya w))(le:Nat.ble M N=true):LeftO p q loose Xt Yf Ya N g0:=fun w=>by
 obtain ⟨⟨h,gs,d,k,os⟩,e,e'⟩:=aba.mp (XS w)
 obtain ⟨rfl,rfl,rfl,rfl⟩:h=absHeap (T₀ w.params) n₀ life/\gs=xI/\d=E5/\k=E6:=by simpa using e'
 obtain ⟨z1,z3⟩:=Prod.mk.inj (size w)
 obtain ⟨st,hr,hl⟩:=aba.mp (congrFun (run w) os)
 obtain ⟨l1,hl⟩:=Prod.mk.inj hl
 obtain ⟨l2,l3⟩:=Prod.mk.inj hl
 have r:=topRun_mono (N-M) _ _ _ _ (Lc hr)
 rw [show M+(N-M)=N by have:=abq le;omega] at r
 have t:topFrom treeTable p w N ⟨absHeap (T₀ w.params) n₀ life,gs,d,k,os⟩=some st.abs:=by
  unfold topFrom
  dsimp only
  rw [z1,absHeap_size,z3]
  have r':topRun treeTable p w n₀ ann N ⟨absHeap (T₀ w.params) n₀ life,gs,d,k,os⟩ (topStub p)=some st.abs:=r
  rw [r']
  show (match staticsOk (importedModules p.main.body) (absHeap (T₀ w.params) n₀ life) st.abs.heap&&namesBound p st.abs.heap&&gensDone st.abs&&laidKept (absHeap (T₀ w.params) n₀ life) st.abs.heap with | true=>_ | false=>_)=_
  rw [l1]
 unfold openEnds
 rw [e]
 show (topFrom treeTable p w N _).map _=_
 rw [t]
 exact congrArg some (Prod.ext l2 l3)
noncomputable def qd (P:Params):BT:=treeOf (boot_heap P).objs.toList 12 1 0
theorem boot_abs (P:Params):absHeap (qd P) 11 {}=boot_heap P:=by kernel_rfl
theorem TV (w:World):((absHeap (qd w.params) 11 {}).isNs mainGlobals&&(Array.mk []:Array GenState).size==0,(absHeap (qd w.params) 11 {}).nsMap mainGlobals "__annotations__")=(true,some (.ref 6)):=by kernel_rfl
noncomputable def nU (p:Program) (w:World) (N:Nat) (os:OsState):Option SharedT:=vv treeTable p w 11 (some (.ref 6)) N ⟨qd w.params,11,{},Array.mk [],boot_drawn,boot_toks,os⟩ (topStub p)
noncomputable def uZ (p:Program) (w:World) (st:SharedT):Bool:=staticsOk (importedModules p.main.body) (absHeap (qd w.params) 11 {}) st.abs.heap&&namesBound p st.abs.heap&&gensDone st.abs&&laidKept (absHeap (qd w.params) 11 {}) st.abs.heap
theorem TX {p q:Program}{loose:List Str}{Xt:Shared->Bool}{α:Type}{Yf:Shared->α}{Ya:World->α}{N:Nat}{g0:Bool}(e:opening p=plainProg p.main.scope.names)(hN:Nat.ble 600 N=true)(f:∀ s,fenceModules? p s=some s)(r1:∀ w:World,(fun os=>(nU p w N os).map fun st=>uZ p w st)=fun _=>some true)(r2:∀ w:World,(fun os=>(nU p w N os).map fun st=>openSeen q loose (importedModules p.main.body) Xt g0 st.abs)=fun _=>some (openGood q loose))(r3:∀ w:World,(fun os=>(nU p w N os).map fun st=>Yf st.abs)=fun _=>some (Ya w)):LeftO p q loose Xt Yf Ya N g0 :=
 TU (T₀:=qd) (n₀:=11) (life:={}) (ann:=some (.ref 6)) (fun w=>(boot_open e hN f w).trans (by rw [boot_abs])) TV (fun w=>funext fun os=>by
  have a:=congrFun (r1 w) os
  have b:=congrFun (r2 w) os
  have c:=congrFun (r3 w) os
  show (nU p w N os).map (fun st=>(uZ p w st,openSeen q loose (importedModules p.main.body) Xt g0 st.abs,Yf st.abs))=_
  cases h:nU p w N os with
  |none=>rw [h] at a;cases a
  |some st =>
   rw [h] at a b c
   show some (uZ p w st,openSeen q loose (importedModules p.main.body) Xt g0 st.abs,Yf st.abs)=_
   have a':uZ p w st=true:=AE a
   have b':openSeen q loose (importedModules p.main.body) Xt g0 st.abs=openGood q loose:=AE b
   have c':Yf st.abs=Ya w:=AE c
   rw [a',b',c']) (by rw [Nat.ble_eq];exact ee _)
def dA (s:Stmt):Arguments:=match s with
 | .FunctionDef _ a _ _ _ _ _ _ _ _=>a
 |_=>{ posonlyargs:=[],args:=[],vararg:=none,kwonlyargs:=[],kw_defaults:=[],kwarg:=none,defaults:=[] }
def dB (s:Stmt):List Stmt:=match s with
 | .FunctionDef _ _ b _ _ _ _ _ _ _=>b
 |_=>[]
def dS (s:Stmt):Scope:=match s with
 | .FunctionDef _ _ _ _ _ _ sc _ _ _=>sc
 |_=>{ kind:=.function,names:=[],isGenerator:=false,isCoroutine:=false }
def dM (s:Stmt)(j:Nat):Stmt:=match s with
 | .ClassDef _ _ _ b _ _ _ _ _ _ _=>b.getD j (.Pass ⟨0,0,0,0⟩)
 |_=>.Pass ⟨0,0,0,0⟩
def dE (P:Params)(x:Str)(n:Nat)(v:Value):DictEntry:=.mk (PyData.keyHash P x) (.str x n) v
def o0:Obj:=Obj.mk (.type "tuple") none (.seq #[] 0) #[]
def oT (x:Array Value):Obj:=Obj.mk (.type "tuple") none (.seq x 0) #[]
def oC (x:Array Value):Obj:=Obj.mk (.type "code") none (.fields x) #[]
def oD (n:Str)(a l k r x:Nat)(y z:Value)(v u:Nat):Obj:=oC #[.str n a,.str n (a+1),.str "/claim/cut.py" (a+2),.int l 0,.int k 0,.int 0 0,.int 0 0,.int 3 0,.ref r,.bool true,.int 181 0,.ref x,.none,y,z,.ref v,.int u 0,.int l 0,.str "/claim/cut.py" (u+1)]
def oF (n:Str)(s:Stmt)(d m c:Value):Obj:=Obj.mk (.type "function") none (.func (FuncData.mk n n (dA s) (.stmts (dB s)) (dS s) 3 [] d .none .none m none c .none 0)) #[]
end L2
namespace iV
open PySem PySem.W
abbrev pr:Program:=PySem.Challenge.rw_lotmeal_k61_tables_no_text.row.prog
def tp (i:Nat):Stmt:=pr.main.body.getD i (.Pass ⟨0,0,0,0⟩)
noncomputable def hK:Params->Frag:=fun P =>
 (nat_lit 2,boot_o_2 P) ::
 (nat_lit 3,(Obj.mk (.type "dict") none (.dict #[(L2.dE P "__name__" 165 (.str "law_lotmeal_k61_tables_no_text" 527)),(L2.dE P "__doc__" 166 .none),(L2.dE P "__package__" 167 .none),(L2.dE P "__loader__" 168 (.builtin "__main__.__loader__#opaque")),(L2.dE P "__spec__" 169 .none),(L2.dE P "__annotations__" 170 (.ref 6)),(L2.dE P "__builtins__" 171 (.ref 4)),(L2.dE P "__file__" 173 (.str "/claim/cut.py" 172)),(L2.dE P "__cached__" 174 .none),(L2.dE P "LotError" 206 (.ref 24)),(L2.dE P "NoNumber" 222 (.ref 37)),(L2.dE P "NoText" 238 (.ref 49)),(L2.dE P "TooGreat" 254 (.ref 61)),(L2.dE P "NoAsker" 270 (.ref 73)),(L2.dE P "NoThing" 295 (.ref 92)),(L2.dE P "Twice" 320 (.ref 111)),(L2.dE P "NoShares" 336 (.ref 123)),(L2.dE P "NoTurns" 352 (.ref 135)),(L2.dE P "NoTicket" 377 (.ref 154)),(L2.dE P "NoName" 393 (.ref 166)),(L2.dE P "Double" 409 (.ref 178)),(L2.dE P "NoRow" 425 (.ref 190)),(L2.dE P "NoTable" 441 (.ref 202)),(L2.dE P "FIGURES" 445 (.str "0123456789" 444)),(L2.dE P "MOST_FIGURES" 447 (.int 60 446)),(L2.dE P "is_figures" 453 (.ref 209)),(L2.dE P "MOST" 457 (.int 6 456)),(L2.dE P "MOST_COUNT" 459 (.int 9 458)),(L2.dE P "check_orders" 465 (.ref 214)),(L2.dE P "table_of" 471 (.ref 219)),(L2.dE P "LETTERS" 475 (.str "abcdefghijklmnopqrstuvwxyz" 474)),(L2.dE P "MOST_LETTERS" 477 (.int 8 476)),(L2.dE P "MOST_COUNT_FIGURES" 479 (.int 9 478)),(L2.dE P "FIRST_WORD" 481 (.str "things" 480)),(L2.dE P "is_name" 487 (.ref 224)),(L2.dE P "is_count" 494 (.ref 231)),(L2.dE P "check_words" 500 (.ref 236)),(L2.dE P "check_double" 507 (.ref 243)),(L2.dE P "read_order" 513 (.ref 248)),(L2.dE P "read_lines" 519 (.ref 253)),(L2.dE P "read_table" 526 (.ref 260)),(L2.dE P "_law_cell_at" 536 (.ref 267)),(L2.dE P "_law_order" 549 (.ref 274)),(L2.dE P "_law_table" 555 (.ref 279)),(L2.dE P "_law_name" 561 (.ref 284)),(L2.dE P "_law_names" 567 (.ref 289)),(L2.dE P "_law_classes" 573 (.ref 294)),(L2.dE P "_law_faulty" 579 (.ref 299)),(L2.dE P "_law_due" 585 (.ref 304)),(L2.dE P "_law_lines" 591 (.ref 309)),(L2.dE P "_law_odd" 603 (.ref 316)),(L2.dE P "_law_told" 614 (.ref 323)),(L2.dE P "law" 620 (.ref 328))] 53) #[])) ::
 (nat_lit 15,(L2.oT #[(.type "ValueError")])) ::
 (nat_lit 22,L2.o0) ::
 (nat_lit 23,(Obj.mk (.type "dict") none (.dict #[(L2.dE P "__module__" 196 (.str "lotmeal.errors" 187)),(L2.dE P "__firstlineno__" 200 (.int 2 199)),(L2.dE P "__static_attributes__" 201 (.ref 22)),(L2.dE P "__weakref__" 203 (.ref 25)),(L2.dE P "__doc__" 204 .none)] 3) #[])) ::
 (nat_lit 24,(Obj.mk (.type "type") none (.cls (ClassData.mk "LotError" [(.type "ValueError")] [(.ref 24),(.type "ValueError"),(.type "Exception"),(.type "BaseException"),(.type "object")] 23 "LotError" true [] [(.ref 37),(.ref 49),(.ref 61),(.ref 73),(.ref 92),(.ref 111),(.ref 123),(.ref 135),(.ref 154),(.ref 166),(.ref 178),(.ref 190),(.ref 202)] false none false)) #[(some (.ref 15)),none,(some (.str "LotError" 189)),(some (.str "LotError" 197)),(some (.builtin "ValueError.__new__")),(some (.bool true))])) ::
 (nat_lit 25,(Obj.mk (.type "getset_descriptor") none (.fields #[(.str "__weakref__" 202),(.ref 24),(.builtin "ExceptionGroup.__weakref__"),.none]) #[])) ::
 (nat_lit 28,(L2.oT #[(.ref 24)])) ::
 (nat_lit 35,L2.o0) ::
 (nat_lit 36,(Obj.mk (.type "dict") none (.dict #[(L2.dE P "__module__" 214 (.str "lotmeal.errors" 187)),(L2.dE P "__firstlineno__" 218 (.int 4 217)),(L2.dE P "__static_attributes__" 219 (.ref 35)),(L2.dE P "__doc__" 220 .none)] 2) #[])) ::
 (nat_lit 37,(Obj.mk (.type "type") none (.cls (ClassData.mk "NoNumber" [(.ref 24)] [(.ref 37),(.ref 24),(.type "ValueError"),(.type "Exception"),(.type "BaseException"),(.type "object")] 36 "NoNumber" true [] [] false none false)) #[(some (.ref 28)),none,(some (.str "NoNumber" 207)),(some (.str "NoNumber" 215)),(some (.builtin "ValueError.__new__")),(some (.bool true))])) ::
 (nat_lit 40,(L2.oT #[(.ref 24)])) ::
 (nat_lit 47,L2.o0) ::
 (nat_lit 48,(Obj.mk (.type "dict") none (.dict #[(L2.dE P "__module__" 230 (.str "lotmeal.errors" 187)),(L2.dE P "__firstlineno__" 234 (.int 6 233)),(L2.dE P "__static_attributes__" 235 (.ref 47)),(L2.dE P "__doc__" 236 .none)] 2) #[])) ::
 (nat_lit 49,(Obj.mk (.type "type") none (.cls (ClassData.mk "NoText" [(.ref 24)] [(.ref 49),(.ref 24),(.type "ValueError"),(.type "Exception"),(.type "BaseException"),(.type "object")] 48 "NoText" true [] [] false none false)) #[(some (.ref 40)),none,(some (.str "NoText" 223)),(some (.str "NoText" 231)),(some (.builtin "ValueError.__new__")),(some (.bool true))])) ::
 (nat_lit 52,(L2.oT #[(.ref 24)])) ::
 (nat_lit 59,L2.o0) ::
 (nat_lit 60,(Obj.mk (.type "dict") none (.dict #[(L2.dE P "__module__" 246 (.str "lotmeal.errors" 187)),(L2.dE P "__firstlineno__" 250 (.int 8 249)),(L2.dE P "__static_attributes__" 251 (.ref 59)),(L2.dE P "__doc__" 252 .none)] 2) #[])) ::
 (nat_lit 61,(Obj.mk (.type "type") none (.cls (ClassData.mk "TooGreat" [(.ref 24)] [(.ref 61),(.ref 24),(.type "ValueError"),(.type "Exception"),(.type "BaseException"),(.type "object")] 60 "TooGreat" true [] [] false none false)) #[(some (.ref 52)),none,(some (.str "TooGreat" 239)),(some (.str "TooGreat" 247)),(some (.builtin "ValueError.__new__")),(some (.bool true))])) ::
 (nat_lit 64,(L2.oT #[(.ref 24)])) ::
 (nat_lit 71,L2.o0) ::
 (nat_lit 72,(Obj.mk (.type "dict") none (.dict #[(L2.dE P "__module__" 262 (.str "lotmeal.errors" 187)),(L2.dE P "__firstlineno__" 266 (.int 10 265)),(L2.dE P "__static_attributes__" 267 (.ref 71)),(L2.dE P "__doc__" 268 .none)] 2) #[])) ::
 (nat_lit 73,(Obj.mk (.type "type") none (.cls (ClassData.mk "NoAsker" [(.ref 24)] [(.ref 73),(.ref 24),(.type "ValueError"),(.type "Exception"),(.type "BaseException"),(.type "object")] 72 "NoAsker" true [] [] false none false)) #[(some (.ref 64)),none,(some (.str "NoAsker" 255)),(some (.str "NoAsker" 263)),(some (.builtin "ValueError.__new__")),(some (.bool true))])) ::
 (nat_lit 76,(L2.oT #[(.ref 24)])) ::
 (nat_lit 83,L2.o0) ::
 (nat_lit 85,(L2.oT #[(.str "self" 286),(.str "asker" 287)])) ::
 (nat_lit 86,L2.o0) ::
 (nat_lit 88,(L2.oC #[(.str "__init__" 283),(.str "NoThing.__init__" 284),(.str "/claim/cut.py" 285),(.int 14 0),(.int 2 0),(.int 0 0),(.int 0 0),(.int 3 0),(.ref 83),(.bool true),(.int 181 0),(.ref 84),.none,(.ref 85),(.ref 86),(.ref 87),(.int 288 0),(.int 14 0),(.str "/claim/cut.py" 289)])) ::
 (nat_lit 89,(Obj.mk (.type "function") none (.func (FuncData.mk "__init__" "NoThing.__init__" (L2.dA (L2.dM (tp 6) 0)) (.stmts (L2.dB (L2.dM (tp 6) 0))) (L2.dS (L2.dM (tp 6) 0)) 3 [] .none .none .none (.str "lotmeal.errors" 187) none (.ref 88) .none 0)) #[])) ::
 (nat_lit 90,(L2.oT #[(.str "asker" 291)])) ::
 (nat_lit 91,(Obj.mk (.type "dict") none (.dict #[(L2.dE P "__module__" 278 (.str "lotmeal.errors" 187)),(L2.dE P "__firstlineno__" 282 (.int 12 281)),(L2.dE P "__init__" 290 (.ref 89)),(L2.dE P "__static_attributes__" 292 (.ref 90)),(L2.dE P "__doc__" 293 .none)] 2) #[])) ::
 (nat_lit 92,(Obj.mk (.type "type") none (.cls (ClassData.mk "NoThing" [(.ref 24)] [(.ref 92),(.ref 24),(.type "ValueError"),(.type "Exception"),(.type "BaseException"),(.type "object")] 91 "NoThing" true [] [] false none false)) #[(some (.ref 76)),none,(some (.str "NoThing" 271)),(some (.str "NoThing" 279)),(some (.builtin "ValueError.__new__")),(some (.bool true))])) ::
 (nat_lit 95,(L2.oT #[(.ref 24)])) ::
 (nat_lit 102,L2.o0) ::
 (nat_lit 104,(L2.oT #[(.str "self" 311),(.str "asker" 312)])) ::
 (nat_lit 105,L2.o0) ::
 (nat_lit 107,(L2.oC #[(.str "__init__" 308),(.str "Twice.__init__" 309),(.str "/claim/cut.py" 310),(.int 19 0),(.int 2 0),(.int 0 0),(.int 0 0),(.int 3 0),(.ref 102),(.bool true),(.int 181 0),(.ref 103),.none,(.ref 104),(.ref 105),(.ref 106),(.int 313 0),(.int 19 0),(.str "/claim/cut.py" 314)])) ::
 (nat_lit 108,(Obj.mk (.type "function") none (.func (FuncData.mk "__init__" "Twice.__init__" (L2.dA (L2.dM (tp 7) 0)) (.stmts (L2.dB (L2.dM (tp 7) 0))) (L2.dS (L2.dM (tp 7) 0)) 3 [] .none .none .none (.str "lotmeal.errors" 187) none (.ref 107) .none 0)) #[])) ::
 (nat_lit 109,(L2.oT #[(.str "asker" 316)])) ::
 (nat_lit 110,(Obj.mk (.type "dict") none (.dict #[(L2.dE P "__module__" 303 (.str "lotmeal.errors" 187)),(L2.dE P "__firstlineno__" 307 (.int 17 306)),(L2.dE P "__init__" 315 (.ref 108)),(L2.dE P "__static_attributes__" 317 (.ref 109)),(L2.dE P "__doc__" 318 .none)] 2) #[])) ::
 (nat_lit 111,(Obj.mk (.type "type") none (.cls (ClassData.mk "Twice" [(.ref 24)] [(.ref 111),(.ref 24),(.type "ValueError"),(.type "Exception"),(.type "BaseException"),(.type "object")] 110 "Twice" true [] [] false none false)) #[(some (.ref 95)),none,(some (.str "Twice" 296)),(some (.str "Twice" 304)),(some (.builtin "ValueError.__new__")),(some (.bool true))])) ::
 (nat_lit 114,(L2.oT #[(.ref 24)])) ::
 (nat_lit 121,L2.o0) ::
 (nat_lit 122,(Obj.mk (.type "dict") none (.dict #[(L2.dE P "__module__" 328 (.str "lotmeal.errors" 187)),(L2.dE P "__firstlineno__" 332 (.int 22 331)),(L2.dE P "__static_attributes__" 333 (.ref 121)),(L2.dE P "__doc__" 334 .none)] 2) #[])) ::
 (nat_lit 123,(Obj.mk (.type "type") none (.cls (ClassData.mk "NoShares" [(.ref 24)] [(.ref 123),(.ref 24),(.type "ValueError"),(.type "Exception"),(.type "BaseException"),(.type "object")] 122 "NoShares" true [] [] false none false)) #[(some (.ref 114)),none,(some (.str "NoShares" 321)),(some (.str "NoShares" 329)),(some (.builtin "ValueError.__new__")),(some (.bool true))])) ::
 (nat_lit 126,(L2.oT #[(.ref 24)])) ::
 (nat_lit 133,L2.o0) ::
 (nat_lit 134,(Obj.mk (.type "dict") none (.dict #[(L2.dE P "__module__" 344 (.str "lotmeal.errors" 187)),(L2.dE P "__firstlineno__" 348 (.int 24 347)),(L2.dE P "__static_attributes__" 349 (.ref 133)),(L2.dE P "__doc__" 350 .none)] 2) #[])) ::
 (nat_lit 135,(Obj.mk (.type "type") none (.cls (ClassData.mk "NoTurns" [(.ref 24)] [(.ref 135),(.ref 24),(.type "ValueError"),(.type "Exception"),(.type "BaseException"),(.type "object")] 134 "NoTurns" true [] [] false none false)) #[(some (.ref 126)),none,(some (.str "NoTurns" 337)),(some (.str "NoTurns" 345)),(some (.builtin "ValueError.__new__")),(some (.bool true))])) ::
 (nat_lit 138,(L2.oT #[(.ref 24)])) ::
 (nat_lit 145,L2.o0) ::
 (nat_lit 147,(L2.oT #[(.str "self" 368),(.str "many" 369)])) ::
 (nat_lit 148,L2.o0) ::
 (nat_lit 150,(L2.oC #[(.str "__init__" 365),(.str "NoTicket.__init__" 366),(.str "/claim/cut.py" 367),(.int 28 0),(.int 2 0),(.int 0 0),(.int 0 0),(.int 3 0),(.ref 145),(.bool true),(.int 181 0),(.ref 146),.none,(.ref 147),(.ref 148),(.ref 149),(.int 370 0),(.int 28 0),(.str "/claim/cut.py" 371)])) ::
 (nat_lit 151,(Obj.mk (.type "function") none (.func (FuncData.mk "__init__" "NoTicket.__init__" (L2.dA (L2.dM (tp 10) 0)) (.stmts (L2.dB (L2.dM (tp 10) 0))) (L2.dS (L2.dM (tp 10) 0)) 3 [] .none .none .none (.str "lotmeal.errors" 187) none (.ref 150) .none 0)) #[])) ::
 (nat_lit 152,(L2.oT #[(.str "many" 373)])) ::
 (nat_lit 153,(Obj.mk (.type "dict") none (.dict #[(L2.dE P "__module__" 360 (.str "lotmeal.errors" 187)),(L2.dE P "__firstlineno__" 364 (.int 26 363)),(L2.dE P "__init__" 372 (.ref 151)),(L2.dE P "__static_attributes__" 374 (.ref 152)),(L2.dE P "__doc__" 375 .none)] 2) #[])) ::
 (nat_lit 154,(Obj.mk (.type "type") none (.cls (ClassData.mk "NoTicket" [(.ref 24)] [(.ref 154),(.ref 24),(.type "ValueError"),(.type "Exception"),(.type "BaseException"),(.type "object")] 153 "NoTicket" true [] [] false none false)) #[(some (.ref 138)),none,(some (.str "NoTicket" 353)),(some (.str "NoTicket" 361)),(some (.builtin "ValueError.__new__")),(some (.bool true))])) ::
 (nat_lit 157,(L2.oT #[(.ref 24)])) ::
 (nat_lit 164,L2.o0) ::
 (nat_lit 165,(Obj.mk (.type "dict") none (.dict #[(L2.dE P "__module__" 385 (.str "lotmeal.errors" 187)),(L2.dE P "__firstlineno__" 389 (.int 31 388)),(L2.dE P "__static_attributes__" 390 (.ref 164)),(L2.dE P "__doc__" 391 .none)] 2) #[])) ::
 (nat_lit 166,(Obj.mk (.type "type") none (.cls (ClassData.mk "NoName" [(.ref 24)] [(.ref 166),(.ref 24),(.type "ValueError"),(.type "Exception"),(.type "BaseException"),(.type "object")] 165 "NoName" true [] [] false none false)) #[(some (.ref 157)),none,(some (.str "NoName" 378)),(some (.str "NoName" 386)),(some (.builtin "ValueError.__new__")),(some (.bool true))])) ::
 (nat_lit 169,(L2.oT #[(.ref 24)])) ::
 (nat_lit 176,L2.o0) ::
 (nat_lit 177,(Obj.mk (.type "dict") none (.dict #[(L2.dE P "__module__" 401 (.str "lotmeal.errors" 187)),(L2.dE P "__firstlineno__" 405 (.int 33 404)),(L2.dE P "__static_attributes__" 406 (.ref 176)),(L2.dE P "__doc__" 407 .none)] 2) #[])) ::
 (nat_lit 178,(Obj.mk (.type "type") none (.cls (ClassData.mk "Double" [(.ref 24)] [(.ref 178),(.ref 24),(.type "ValueError"),(.type "Exception"),(.type "BaseException"),(.type "object")] 177 "Double" true [] [] false none false)) #[(some (.ref 169)),none,(some (.str "Double" 394)),(some (.str "Double" 402)),(some (.builtin "ValueError.__new__")),(some (.bool true))])) ::
 (nat_lit 181,(L2.oT #[(.ref 24)])) ::
 (nat_lit 188,L2.o0) ::
 (nat_lit 189,(Obj.mk (.type "dict") none (.dict #[(L2.dE P "__module__" 417 (.str "lotmeal.errors" 187)),(L2.dE P "__firstlineno__" 421 (.int 35 420)),(L2.dE P "__static_attributes__" 422 (.ref 188)),(L2.dE P "__doc__" 423 .none)] 2) #[])) ::
 (nat_lit 190,(Obj.mk (.type "type") none (.cls (ClassData.mk "NoRow" [(.ref 24)] [(.ref 190),(.ref 24),(.type "ValueError"),(.type "Exception"),(.type "BaseException"),(.type "object")] 189 "NoRow" true [] [] false none false)) #[(some (.ref 181)),none,(some (.str "NoRow" 410)),(some (.str "NoRow" 418)),(some (.builtin "ValueError.__new__")),(some (.bool true))])) ::
 (nat_lit 193,(L2.oT #[(.ref 24)])) ::
 (nat_lit 200,L2.o0) ::
 (nat_lit 201,(Obj.mk (.type "dict") none (.dict #[(L2.dE P "__module__" 433 (.str "lotmeal.errors" 187)),(L2.dE P "__firstlineno__" 437 (.int 37 436)),(L2.dE P "__static_attributes__" 438 (.ref 200)),(L2.dE P "__doc__" 439 .none)] 2) #[])) ::
 (nat_lit 202,(Obj.mk (.type "type") none (.cls (ClassData.mk "NoTable" [(.ref 24)] [(.ref 202),(.ref 24),(.type "ValueError"),(.type "Exception"),(.type "BaseException"),(.type "object")] 201 "NoTable" true [] [] false none false)) #[(some (.ref 193)),none,(some (.str "NoTable" 426)),(some (.str "NoTable" 434)),(some (.builtin "ValueError.__new__")),(some (.bool true))])) ::
 (nat_lit 205,L2.o0) ::
 (nat_lit 208,(L2.oD "is_figures" 448 42 1 205 206 .none .none 207 451)) ::
 (nat_lit 209,(L2.oF "is_figures" (tp 18) .none (.str "lotmeal.figures" 442) (.ref 208))) ::
 (nat_lit 210,L2.o0) ::
 (nat_lit 213,(L2.oD "check_orders" 460 51 2 210 211 .none .none 212 463)) ::
 (nat_lit 214,(L2.oF "check_orders" (tp 22) .none (.str "lotmeal.tables" 454) (.ref 213))) ::
 (nat_lit 215,L2.o0) ::
 (nat_lit 218,(L2.oD "table_of" 466 58 2 215 216 .none .none 217 469)) ::
 (nat_lit 219,(L2.oF "table_of" (tp 23) .none (.str "lotmeal.tables" 454) (.ref 218))) ::
 (nat_lit 220,L2.o0) ::
 (nat_lit 223,(L2.oD "is_name" 482 72 1 220 221 .none .none 222 485)) ::
 (nat_lit 224,(L2.oF "is_name" (tp 29) .none (.str "lotmeal.texts" 472) (.ref 223))) ::
 (nat_lit 225,L2.o0) ::
 (nat_lit 227,(L2.oT #[(.str "word" 491)])) ::
 (nat_lit 228,L2.o0) ::
 (nat_lit 230,(L2.oD "is_count" 488 74 1 225 226 (.ref 227) (.ref 228) 229 492)) ::
 (nat_lit 231,(L2.oF "is_count" (tp 30) .none (.str "lotmeal.texts" 472) (.ref 230))) ::
 (nat_lit 232,L2.o0) ::
 (nat_lit 235,(L2.oD "check_words" 495 76 1 232 233 .none .none 234 498)) ::
 (nat_lit 236,(L2.oF "check_words" (tp 31) .none (.str "lotmeal.texts" 472) (.ref 235))) ::
 (nat_lit 237,L2.o0) ::
 (nat_lit 239,(L2.oT #[(.str "names" 504)])) ::
 (nat_lit 240,L2.o0) ::
 (nat_lit 242,(L2.oD "check_double" 501 86 1 237 238 (.ref 239) (.ref 240) 241 505)) ::
 (nat_lit 243,(L2.oF "check_double" (tp 32) .none (.str "lotmeal.texts" 472) (.ref 242))) ::
 (nat_lit 244,L2.o0) ::
 (nat_lit 247,(L2.oD "read_order" 508 89 2 244 245 .none .none 246 511)) ::
 (nat_lit 248,(L2.oF "read_order" (tp 33) .none (.str "lotmeal.texts" 472) (.ref 247))) ::
 (nat_lit 249,L2.o0) ::
 (nat_lit 252,(L2.oD "read_lines" 514 93 1 249 250 .none .none 251 517)) ::
 (nat_lit 253,(L2.oF "read_lines" (tp 34) .none (.str "lotmeal.texts" 472) (.ref 252))) ::
 (nat_lit 254,L2.o0) ::
 (nat_lit 256,(L2.oT #[(.str "text" 523)])) ::
 (nat_lit 257,L2.o0) ::
 (nat_lit 259,(L2.oD "read_table" 520 103 1 254 255 (.ref 256) (.ref 257) 258 524)) ::
 (nat_lit 260,(L2.oF "read_table" (tp 35) .none (.str "lotmeal.texts" 472) (.ref 259))) ::
 (nat_lit 261,L2.o0) ::
 (nat_lit 263,(L2.oT #[(.str "_law_script" 532),(.str "_law_k" 533)])) ::
 (nat_lit 264,L2.o0) ::
 (nat_lit 266,(L2.oD "_law_cell_at" 529 108 2 261 262 (.ref 263) (.ref 264) 265 534)) ::
 (nat_lit 267,(L2.oF "_law_cell_at" (tp 37) .none (.str "law_lotmeal_k61_tables_no_text" 527) (.ref 266))) ::
 (nat_lit 268,L2.o0) ::
 (nat_lit 270,(L2.oT #[(.str "_law_cell" 540),(.str "_law_many" 541),(.str "_law_size" 542),(.str "_law_left" 543),(.str "_law_order_here" 544),(.str "_law_k" 545),(.str "_law_at" 546)])) ::
 (nat_lit 271,L2.o0) ::
 (nat_lit 273,(L2.oD "_law_order" 537 112 2 268 269 (.ref 270) (.ref 271) 272 547)) ::
 (nat_lit 274,(L2.oF "_law_order" (tp 38) .none (.str "law_lotmeal_k61_tables_no_text" 527) (.ref 273))) ::
 (nat_lit 275,L2.o0) ::
 (nat_lit 278,(L2.oD "_law_table" 550 122 4 275 276 .none .none 277 553)) ::
 (nat_lit 279,(L2.oF "_law_table" (tp 39) .none (.str "law_lotmeal_k61_tables_no_text" 527) (.ref 278))) ::
 (nat_lit 280,L2.o0) ::
 (nat_lit 283,(L2.oD "_law_name" 556 133 3 280 281 .none .none 282 559)) ::
 (nat_lit 284,(L2.oF "_law_name" (tp 40) .none (.str "law_lotmeal_k61_tables_no_text" 527) (.ref 283))) ::
 (nat_lit 285,L2.o0) ::
 (nat_lit 288,(L2.oD "_law_names" 562 136 2 285 286 .none .none 287 565)) ::
 (nat_lit 289,(L2.oF "_law_names" (tp 41) .none (.str "law_lotmeal_k61_tables_no_text" 527) (.ref 288))) ::
 (nat_lit 290,L2.o0) ::
 (nat_lit 293,(L2.oD "_law_classes" 568 144 1 290 291 .none .none 292 571)) ::
 (nat_lit 294,(L2.oF "_law_classes" (tp 42) .none (.str "law_lotmeal_k61_tables_no_text" 527) (.ref 293))) ::
 (nat_lit 295,L2.o0) ::
 (nat_lit 298,(L2.oD "_law_faulty" 574 150 3 295 296 .none .none 297 577)) ::
 (nat_lit 299,(L2.oF "_law_faulty" (tp 43) .none (.str "law_lotmeal_k61_tables_no_text" 527) (.ref 298))) ::
 (nat_lit 300,L2.o0) ::
 (nat_lit 303,(L2.oD "_law_due" 580 175 1 300 301 .none .none 302 583)) ::
 (nat_lit 304,(L2.oF "_law_due" (tp 44) .none (.str "law_lotmeal_k61_tables_no_text" 527) (.ref 303))) ::
 (nat_lit 305,L2.o0) ::
 (nat_lit 308,(L2.oD "_law_lines" 586 192 1 305 306 .none .none 307 589)) ::
 (nat_lit 309,(L2.oF "_law_lines" (tp 45) .none (.str "law_lotmeal_k61_tables_no_text" 527) (.ref 308))) ::
 (nat_lit 310,L2.o0) ::
 (nat_lit 312,(L2.oT #[(.str "_law_lines_here" 595),(.str "_law_way" 596),(.str "_law_cell" 597),(.str "_law_text" 598),(.str "_law_at" 599),(.str "_law_odd_here" 600)])) ::
 (nat_lit 313,L2.o0) ::
 (nat_lit 315,(L2.oD "_law_odd" 592 198 3 310 311 (.ref 312) (.ref 313) 314 601)) ::
 (nat_lit 316,(L2.oF "_law_odd" (tp 46) .none (.str "law_lotmeal_k61_tables_no_text" 527) (.ref 315))) ::
 (nat_lit 317,L2.o0) ::
 (nat_lit 319,(L2.oT #[(.str "_law_text" 607),(.str "_law_some" 608),(.str "_law_field" 609),(.str "_law_found" 610),(.str "_law_e" 611)])) ::
 (nat_lit 320,L2.o0) ::
 (nat_lit 322,(L2.oD "_law_told" 604 219 1 317 318 (.ref 319) (.ref 320) 321 612)) ::
 (nat_lit 323,(L2.oF "_law_told" (tp 47) .none (.str "law_lotmeal_k61_tables_no_text" 527) (.ref 322))) ::
 (nat_lit 324,L2.o0) ::
 (nat_lit 327,(L2.oD "law" 615 230 1 324 325 .none .none 326 618)) ::
 (nat_lit 328,(L2.oF "law" (tp 48) .none (.str "law_lotmeal_k61_tables_no_text" 527) (.ref 327)))::[]
def hA:List Addr:=[2,3,15,22,23,24,25,28,35,36,37,40,47,48,49,52,59,60,61,64,71,72,73,76,83,85,86,88,89,90,91,92,95,102,104,105,107,108,109,110,111,114,121,122,123,126,133,134,135,138,145,147,148,150,151,152,153,154,157,164,165,166,169,176,177,178,181,188,189,190,193,200,201,202,205,208,209,210,213,214,215,218,219,220,223,224,225,227,228,230,231,232,235,236,237,239,240,242,243,244,247,248,249,252,253,254,256,257,259,260,261,263,264,266,267,268,270,271,273,274,275,278,279,280,283,284,285,288,289,290,293,294,295,298,299,300,303,304,305,308,309,310,312,313,315,316,317,319,320,322,323,324,327,328]
theorem xJ (P:Params):hA=(hK P).map (·.1):=by kernel_rfl
def hV:Program:={ pr with main:={ pr.main with body:=[1,2,3,4,5,6,7,8,9,10,11,12,13,14,16,17,18,20,21,22,23,25,26,27,28,29,30,31,32,33,34,35,37,38,39,40,41,42,43,44,45,46,47,48].map tp } }
def hX (s:Shared):Bool:=xlAt hV [] s&&recOk (RowW.records PySem.Challenge.rw_lotmeal_k61_tables_no_text.row.toRowW) s
noncomputable abbrev hH:Hook:=kHook hK hA xJ
theorem h1:opening pr=plainProg pr.main.scope.names:=by kernel_rfl
theorem h2 (s:Shared):fenceModules? pr s=some s:=by kernel_rfl
theorem h3 (w:World):(fun os=>(L2.nU pr w 7680 os).map fun st=>L2.uZ pr w st)=fun _=>some true:=by kernel_rfl
theorem h4 (w:World):(fun os=>(L2.nU pr w 7680 os).map fun st=>openSeen hV [] (importedModules pr.main.body) hX true st.abs)=fun _=>some (openGood hV []):=by kernel_rfl
theorem h5 (w:World):(fun os=>(L2.nU pr w 7680 os).map fun st=>hH.obs st.abs)=fun _=>some (hH.val w):=by kernel_rfl
theorem hL:LeftO pr hV [] hX hH.obs hH.val 7680:=L2.TX h1 (by decide) h2 h3 h4 h5
end iV
namespace L2
open PySem PySem.Spec PyProof.Rows
abbrev Key:=Sum Int Str
def M0:Key->Value->Bool
 | .inl k,v=>Value.isInt k v
 | .inr x,v=>Value.isStrOf x v
def Yq (w:World):Key->Int
 | .inl k=>hashInt k
 | .inr x=>hashStr w x
theorem mC:∀ {k:Key} {v:Value},M0 k v=true->(∃ i t,k=Sum.inl i/\v=Value.int i t)\/(∃ x t,k=Sum.inr x/\v=Value.str x t)
 | .inl i,v,h=>by
  obtain ⟨t,e⟩:=Value.isInt_shape (k:=i) (v:=v) h
  exact .inl ⟨i,t,rfl,e⟩
 | .inr x,v,h=>by
  obtain ⟨t,e⟩:=Value.isStrOf_shape (x:=x) (v:=v) h
  exact .inr ⟨x,t,rfl,e⟩
theorem Ww (a b:Int):decide ((Sum.inl a:Key)=Sum.inl b)=(a==b):=by
 by_cases e:a=b
 ·subst e;simp
 ·have h:¬ (Sum.inl a:Key)=Sum.inl b:=fun q=>e (Sum.inl.inj q)
  rw [uu h]
  exact (Mc.mpr e).symm
theorem Wx (a b:Str):decide ((Sum.inr a:Key)=Sum.inr b)=decide (a=b):=by
 by_cases e:a=b
 ·subst e;simp
 ·have h:¬ (Sum.inr a:Key)=Sum.inr b:=fun q=>e (Sum.inr.inj q)
  rw [uu h,uu e]
theorem Wy (a:Int)(b:Str):decide ((Sum.inl a:Key)=Sum.inr b)=false:=uu (fun q=>nomatch q)
theorem Wz (a:Str)(b:Int):decide ((Sum.inr a:Key)=Sum.inl b)=false:=uu (fun q=>nomatch q)
def Ld (prog:Program)(w:World):PySem.KeyKind prog w Key where
 is:=M0
 hash:=Yq w
 inj:=fun v a b ha hb=>by
  rcases mC ha with ⟨i,t,rfl,rfl⟩ | ⟨x,t,rfl,rfl⟩
  ·rcases mC hb with ⟨j,u,rfl,e⟩ | ⟨y,u,rfl,e⟩
   ·injection e with e1 _;rw [e1]
   ·exact nomatch e
  ·rcases mC hb with ⟨j,u,rfl,e⟩ | ⟨y,u,rfl,e⟩
   ·exact nomatch e
   ·injection e with e1 _;rw [e1]
 byValue:=fun k v h=>by
  rcases mC h with ⟨i,t,rfl,rfl⟩ | ⟨x,t,rfl,rfl⟩<;>rfl
 pyHash:=fun hv h=>by
  rcases mC hv with ⟨i,t,rfl,rfl⟩ | ⟨x,t,rfl,rfl⟩
  ·exact wpAny_pyHash_int h
  ·exact wpAny_pyHash_str h
 eqBool:=fun hu hv h=>by
  rcases mC hu with ⟨i,t,rfl,rfl⟩ | ⟨x,t,rfl,rfl⟩
  ·rcases mC hv with ⟨j,u,rfl,rfl⟩ | ⟨y,u,rfl,rfl⟩
   ·rw [Ww] at h;exact wpAny_eqBool_int h
   ·rw [Wy] at h;exact SeqAt.EqAt.int_str i t y u _ _ _ _ h
  ·rcases mC hv with ⟨j,u,rfl,rfl⟩ | ⟨y,u,rfl,rfl⟩
   ·rw [Wz] at h;exact SeqAt.EqAt.str_int x t j u _ _ _ _ h
   ·rw [Wx] at h;exact wpAny_eqBool_str h
 «strs»:=fun k x t v h=>by
  rcases mC h with ⟨i,u,rfl,e⟩ | ⟨y,u,rfl,e⟩
  ·exact nomatch e
  ·injection e with e1 _
   subst e1
   cases v<;>rfl
inductive V where
 |aN | bl (b:Bool) | int (i:Int) | str (x:Str) | jk (b:Array UInt8) | oR (b:UInt64) | ref (a:Addr) | ty (n:String)
 deriving DecidableEq
def RelV:V->Value->Prop
 | .aN,u=>u=Value.none
 | .bl b,u=>u=Value.bool b
 | .int i,u=>∃ t,u=Value.int i t
 | .str x,u=>∃ t,u=Value.str x t
 | .jk b,u=>∃ t,u=Value.bytes b t
 | .oR b,u=>∃ t,u=Value.float b t
 | .ref a,u=>u=Value.ref a
 | .ty n,u=>u=Value.type n
abbrev Vals:List V->List Value->Prop:=Paired RelV
theorem Vals.length {xs:List V}{us:List Value}(r:Vals xs us):xs.length=us.length:=Paired.length r
theorem Vals.get:∀ {xs:List V} {us:List Value} {i:Nat} {x:V},Vals xs us->xs[i]?=some x->∃ u,us[i]?=some u/\RelV x u
 |_,_,_,_,.nil,e=>by simp at e
 |_,_,0,_,.cons r _,e=>by simp at e;subst e;exact ⟨_,rfl,r⟩
 |_,_,i+1,x,.cons _ t,e=>by
  obtain ⟨u,h1,h2⟩:=Vals.get (i:=i) (x:=x) t (by simpa using e)
  exact ⟨u,by simpa using h1,h2⟩
theorem Vals.set {x:V}{u:Value}(r:RelV x u):∀ {xs:List V} {us:List Value} (i:Nat),Vals xs us->Vals (xs.set i x) (us.set i u)
 |_,_,_,.nil=>.nil
 |_,_,0,.cons _ t=>.cons r t
 |_,_,i+1,.cons q t=>.cons q (Vals.set r i t)
theorem Vals.append:∀ {xs ys:List V} {us ws:List Value},Vals xs us->Vals ys ws->Vals (xs++ys) (us++ws)
 |_,_,_,_,.nil,s=>s
 |_,_,_,_,.cons r t,s=>.cons r (Vals.append t s)
theorem Vals.take:∀ {xs:List V} {us:List Value} (n:Nat),Vals xs us->Vals (xs.take n) (us.take n)
 |_,_,0,_=>.nil
 |_,_,_+1,.nil=>.nil
 |_,_,n+1,.cons r t=>.cons r (Vals.take n t)
theorem Vals.drop:∀ {xs:List V} {us:List Value} (n:Nat),Vals xs us->Vals (xs.drop n) (us.drop n)
 |_,_,0,r=>r
 |_,_,_+1,.nil=>.nil
 |_,_,n+1,.cons _ t=>Vals.drop n t
def qz:Option V->Option Value->Prop
 |some v,some u=>RelV v u
 |none,none=>True
 |_,_=>False
def KV {κ:Type}:List (κ×V)->List (κ×Value)->Prop:=Paired fun (p : κ×V) (q : κ×Value)=>p.1=q.1/\RelV p.2 q.2
def kV:Key->V
 | .inl i=>.int i
 | .inr x=>.str x
inductive HO where
 |lst (xs:List V)
 |tup (xs:List V)
 |dK (dH:List (Key×V)) | dT (dH:List (List Key×V))
 |set (S:Int->Bool) (n:Nat)
 |ins (C dx:Addr) (fs:List (Str×V))
 |own (x:Addr)
 |xd (fs:List (Str×V))
 |met (f x:Addr)
 |ic (lo hi:Int)
 |dt (o:Obj) (u:HO)
 |j7 (ps:Array Value)
 |ext (φ:Heap->Prop)
abbrev Hp:=Addr->Option HO
def upd (H:Hp)(a:Addr)(o:HO):Hp:=fun b=>if b=a then some o else H b
theorem bT {H:Hp}{a:Addr}{o:HO}:upd H a o a=some o:=by unfold upd;rw [Cn rfl]
theorem ay {H:Hp}{a b:Addr}{o:HO}(h:b ≠ a):upd H a o b=H b:=by unfold upd;rw [AM h]
theorem DE {H:Hp}{a:Addr}{o u:HO}:upd (upd H a o) a u=upd H a u:=by
 funext b;unfold upd;split<;>rfl
theorem jJ {H:Hp}{a b:Addr}{o:HO}(h:H a=some o)(h':H b=none):a ≠ b:=by
 intro e;subst e;rw [h] at h';cases h'
section
variable (P:Program) (w:World)
def dD (H:Hp)(h:Heap)(a:Addr):HO->Prop
 | .lst xs=>xs.length<=sizeLine/\∃ (its:List Value) (n:Nat),Vals xs its/\h.get? a=some { cls:=.type "list",data:=.seq its.toArray n }
 | .tup xs=>xs.length<=sizeLine/\∃ its:List Value,Vals xs its/\IsTup h a its.toArray
 | .dK dH=>dH.length<=sizeLine/\(a==sysModules)=false/\∃ vs,KV dH vs/\h.DictOf (Ld P w) a vs
 | .dT dH=>dH.length<=sizeLine/\(a==sysModules)=false/\∃ xs:List (List Key×Addr×Value),
   Paired (fun (p:List Key×V) (q:List Key×Addr×Value)=>p.1=q.1/\H q.2.1=some (.tup (p.1.map kV))/\RelV p.2 q.2.2) dH xs /\
   ∃ o es ep,h.get? a=some o/\o.ExactDict/\o.data=.dict es ep/\es.toList=xs.map (entryOfKey (tupleKind (Ld P w)))/\(xs.map (·.1)).Nodup
 | .set S n=>h.SetOf (intKind P w) a S n
 | .ins C dx fs=>H dx=some (.own a)/\fs.length<=1000/\dx ≠ a/\h.get? a=some (PySem.W.instObj C dx) /\
   ∃ mA,h.Ns1 dx mA/\(∀ f,qz (fs.lookup f) (mA f))/\PySem.Within mA (fs.map (·.1))
 | .own _=>∃ o,h.get? a=some o
 | .xd fs=>∃ mA,h.Ns1 a mA/\∀ f,qz (fs.lookup f) (mA f)
 | .ic lo hi=>∃ t u v,h.get? a=some { cls:=.type "range",data:=.fields #[.int lo t,.int hi u,.int 1 v] }
 | .dt o u=>h.get? a=some o/\dD H h a u
 | .j7 ps=>h.get? a=some { cls:=.none,data:=.fields ps }
 | .met f x=>h.get? a=some (PySem.W.methodObj (.ref f) (.ref x))
 | .ext φ => φ h/\(∃ o,h.get? a=some o)/\∀ h1 h2:Heap,φ h1->(∀ o,h1.get? a=some o->h2.get? a=some o)->φ h2
def cV (H:Hp)(h:Heap):Prop:=∀ a o,H a=some o->dD P w H h a o
end
section
variable {P:Program}{w:World}{H H':Hp}{h h':Heap}{a:Addr}{o:HO}
theorem dD.lt (x:dD P w H h a o):a<h.objs.size:=by
 cases o with
 |lst xs=>obtain ⟨_,_,_,_,e⟩:=x;exact lp e
 |tup xs=>obtain ⟨_,_,_,p⟩:=x;exact p.lt
 |dK dH=>obtain ⟨_,_,_,_,o,_,_,e,_⟩:=x;exact lp e
 |dT dH=>obtain ⟨_,_,_,_,o,_,_,e,_⟩:=x;exact lp e
 |set S n=>obtain ⟨o,_,_,_,e,_⟩:=x;exact lp e
 |ins C dx fs=>obtain ⟨_,_,_,e,_⟩:=x;exact lp e
 |own y=>obtain ⟨_,e⟩:=x;exact lp e
 |xd fs=>obtain ⟨_,⟨_,_,_,e,_⟩,_⟩:=x;exact lp e
 |ic lo hi=>obtain ⟨_,_,_,e⟩:=x;exact lp e
 |dt ob u=>obtain ⟨e,_⟩:=x;exact lp e
 |j7 ps=>exact lp (show h.get? a=some _ from x)
 |met f y=>exact lp (show h.get? a=some _ from x)
 |ext φ => obtain ⟨_,⟨_,e⟩,_⟩:=x;exact lp e
theorem Paired.NV {α β:Type}{F G : α->β->Prop}:∀ {l₁:List α} {l₂:List β},Paired F l₁ l₂->(∀ a b,F a b->G a b)->Paired G l₁ l₂
 |_,_,.nil,_=>.nil
 |_,_,.cons r t,f=>.cons (f _ _ r) (Paired.NV t f)
theorem dD.hJ (x:dD P w H h a o)(k:∀ b u,(b=a\/H b=some (.own a))->h.get? b=some u->h'.get? b=some u)(ho:∀ b,H b=some (.own a)->H' b=some (.own a))(ht:∀ b xs,H b=some (.tup xs)->H' b=some (.tup xs)):dD P w H' h' a o:=by
 induction o with
 |lst xs=>obtain ⟨z,its,n,r,e⟩:=x;exact ⟨z,its,n,r,k _ _ (.inl rfl) e⟩
 |tup xs=>obtain ⟨z,its,r,ob,e,c⟩:=x;exact ⟨z,its,r,ob,k _ _ (.inl rfl) e,c⟩
 |dK dH=>obtain ⟨z,y,vs,r,ob,es,ep,e,c⟩:=x;exact ⟨z,y,vs,r,ob,es,ep,k _ _ (.inl rfl) e,c⟩
 |dT dH =>
  obtain ⟨z,y,xs,r,ob,es,ep,e,c⟩:=x
  exact ⟨z,y,xs,Paired.NV r fun p q z=>⟨z.1,ht _ _ z.2.1,z.2.2⟩,ob,es,ep,k _ _ (.inl rfl) e,c⟩
 |set S n=>obtain ⟨ob,es,ep,t,e,c⟩:=x;exact ⟨ob,es,ep,t,k _ _ (.inl rfl) e,c⟩
 |ins C dx fs =>
  obtain ⟨d,z,ne,e,mA,⟨od,es,ep,e2,c⟩,r⟩:=x
  exact ⟨ho _ d,z,ne,k _ _ (.inl rfl) e,mA,⟨od,es,ep,k _ _ (.inr d) e2,c⟩,r⟩
 |own y=>obtain ⟨ob,e⟩:=x;exact ⟨ob,k _ _ (.inl rfl) e⟩
 |xd fs=>obtain ⟨mA,⟨od,es,ep,e,c⟩,r⟩:=x;exact ⟨mA,⟨od,es,ep,k _ _ (.inl rfl) e,c⟩,r⟩
 |ic lo hi=>obtain ⟨t,u,v,e⟩:=x;exact ⟨t,u,v,k _ _ (.inl rfl) e⟩
 |dt ob u ih=>obtain ⟨e,q⟩:=x;exact ⟨k _ _ (.inl rfl) e,ih q⟩
 |j7 ps =>
  have e:h.get? a=some { cls:=.none,data:=.fields ps }:=x
  show h'.get? a=some { cls:=.none,data:=.fields ps }
  exact k a _ (.inl rfl) e
 |met f y =>
  have e:h.get? a=some (PySem.W.methodObj (.ref f) (.ref y)):=x
  show h'.get? a=some (PySem.W.methodObj (.ref f) (.ref y))
  exact k a _ (.inl rfl) e
 |ext φ => obtain ⟨p,⟨o,e⟩,st⟩:=x;exact ⟨st _ _ p fun o q=>k _ _ (.inl rfl) q,⟨o,k _ _ (.inl rfl) e⟩,st⟩
theorem cV.lt (x:cV P w H h)(e:H a=some o):a<h.objs.size:=(x a o e).lt
theorem cV.fresh (x:cV P w H h)(e:h.objs.size<=a):H a=none:=by
 cases q:H a with
 |none=>rfl
 |some u=>exact absurd (rb (x.lt q) e) (LM _)
theorem cV.kept (x:cV P w H h)(k:∀ b u,h.get? b=some u->h'.get? b=some u):cV P w H h':=fun a o e =>
 (x a o e).hJ (fun b u _ q=>k b u q) (fun _ q=>q) fun _ _ q=>q
theorem cV.laid (x:cV P w H h)(k:∀ b u,h.get? b=some u->h'.get? b=some u)(hp:h.objs.size<=a)(new:dD P w (upd H a o) h' a o):cV P w (upd H a o) h':=fun b u e=>by
 have hn:=x.fresh hp
 by_cases hb:b=a
 ·subst hb;rw [bT] at e;cases e;exact new
 ·rw [ay hb] at e
  exact (x b u e).hJ (fun c v _ q=>k c v q) (fun c q=>by rw [ay (jJ q hn)];exact q) fun c xs q=>by rw [ay (jJ q hn)];exact q
end
def Rd (H:Hp)(a:Addr)(u:HO):Prop:=H a=some u\/∃ o,H a=some (.dt o u)
theorem Rd.ok {P:Program}{w:World}{H:Hp}{h:Heap}{a:Addr}{u:HO}(r:Rd H a u)(x:cV P w H h):dD P w H h a u:=by
 rcases r with r | ⟨o,r⟩
 ·exact x a u r
 ·obtain ⟨_,q⟩:=x a _ r
  exact q
def yq:Option HO->Prop
 |some (.lst _)=>True
 |some (.dK _)=>True
 |some (.dT _)=>True
 |some (.set _ _)=>True
 |some (.ins _ _ _)=>True
 |some (.ext _)=>True
 |_=>False
section
variable {P:Program}{w:World}{H:Hp}{h h':Heap}{x e:Addr}{o':HO}
theorem cV.write (ok:cV P w H h)(mu:yq (H x))(he:e=x\/H e=some (.own x))(k:∀ b u,b ≠ e->h.get? b=some u->h'.get? b=some u)(tL:∃ u,h'.get? e=some u)(new:dD P w (upd H x o') h' x o'):cV P w (upd H x o') h':=fun b u q=>by
 have NW:∀ c y,H c=some (.own y)->c ≠ x:=fun c y r z=>by subst z;rw [r] at mu;exact mu
 have Yr:∀ c xs,H c=some (.tup xs)->c ≠ x:=fun c xs r z=>by subst z;rw [r] at mu;exact mu
 by_cases hb:b=x
 ·subst hb;rw [bT] at q;cases q;exact new
 ·rw [ay hb] at q
  by_cases qN:b=e
  ·have q':H b=some (.own x):=by
    rcases he with z | z
    ·exact absurd (qN.trans z) hb
    ·rw [qN];exact z
   rw [q] at q';cases q'
   obtain ⟨v,hv⟩:=tL
   exact ⟨v,by rw [qN];exact hv⟩
  ·refine (ok b u q).hJ (fun c v hc r=>k c v ?_ r) (fun c r=>by rw [ay (NW c b r)];exact r) fun c xs r=>by rw [ay (Yr c xs r)];exact r
   rcases hc with rfl | hc
   ·exact qN
   ·rintro rfl
    rcases he with z | z
    ·exact NW c b hc z
    ·rw [hc] at z;cases z;exact hb rfl
end
structure Un (fs ex:List Addr) (H H':Hp) (h h':Heap):Prop where
 keep:∀ b o,h.get? b=some o->H b=none->b ∉ fs->b ∉ ex->h'.get? b=some o
 slot:∀ b o,h.get? b=some o->H b=none->b ∈ fs->b ∉ ex->∃ sl,h'.get? b=some { o with slots:=sl }
 free:∀ b o,h.get? b=some o->H b=none->b ∉ ex->H' b=none
 there:∀ b o,h.get? b=some o->b ∉ ex->∃ o',h'.get? b=some o'
 dJ:∀ b xs,H b=some (.tup xs)->H' b=some (.tup xs)
 dF:∀ b o u,H b=some (.dt o u)->H' b=some (.dt o u)
 dN:∀ b ps,H b=some (.j7 ps)->∃ more,H' b=some (.j7 (ps++more))
section
variable {fs fs' ex ex':List Addr}{H H1 H2:Hp}{h h1 h2 h':Heap}{a x e:Addr}{o:HO}
theorem Un.any (u:Un fs ex H H1 h h1){b:Addr}{ob:Obj}(q:h.get? b=some ob)(n:H b=none)(hx:b ∉ ex):∃ sl,h1.get? b=some { ob with slots:=sl }:=by
 by_cases hb:b ∈ fs
 ·exact u.slot b ob q n hb hx
 ·exact ⟨ob.slots,u.keep b ob q n hb hx⟩
theorem Un.kept (k:∀ b u,h.get? b=some u->h'.get? b=some u):Un fs ex H H h h' :=
 ⟨fun b ob q _ _ _=>k b ob q,fun b ob q _ _ _=>⟨ob.slots,k b ob q⟩,fun _ _ _ n _=>n,fun b ob q _=>⟨ob,k b ob q⟩,fun _ _ q=>q,fun _ _ _ q=>q,fun _ ps q=>⟨#[],by rw [q];simp⟩⟩
theorem Un.refl:Un fs ex H H h h:=Un.kept fun _ _ q=>q
theorem Un.laid (k:∀ b u,h.get? b=some u->h'.get? b=some u)(hp:h.objs.size<=a)(hn:H a=none):Un fs ex H (upd H a o) h h' where
 keep:=fun b u q _ _ _=>k b u q
 slot:=fun b u q _ _ _=>⟨u.slots,k b u q⟩
 free:=fun b u q n _=>by rw [ay (xp (rb (lp q) hp))];exact n
 there:=fun b u q _=>⟨u,k b u q⟩
 dJ:=fun b xs q=>by rw [ay (jJ q hn)];exact q
 dF:=fun b u xs q=>by rw [ay (jJ q hn)];exact q
 dN:=fun b ps q=>⟨#[],by rw [ay (jJ q hn),q];simp⟩
theorem Un.write (mu:yq (H x))(he:e=x\/H e=some (.own x))(k:∀ b u,b ≠ e->h.get? b=some u->h'.get? b=some u)(tL:∃ u,h'.get? e=some u):Un fs ex H (upd H x o) h h':=by
 have hx:∀ b,H b=none->b ≠ x:=fun b n z=>by subst z;rw [n] at mu;exact mu
 have hb:∀ b,H b=none->b ≠ e:=fun b n z=>by
  subst z
  rcases he with r | r
  ·exact hx b n r
  ·rw [n] at r;cases r
 have hm:∀ b u,H b=some u->¬ yq (some u)->b ≠ x:=fun b u q nm z=>by subst z;rw [q] at mu;exact nm mu
 refine ⟨fun b u q n _ _=>k b u (hb b n) q,fun b u q n _ _=>⟨u.slots,k b u (hb b n) q⟩,fun b u q n _=>by rw [ay (hx b n)];exact n,fun b u q _=>?_,
  fun b xs q=>by rw [ay (hm b _ q fun z=>z)];exact q,fun b u xs q=>by rw [ay (hm b _ q fun z=>z)];exact q,fun b ps q=>⟨#[],by rw [ay (hm b _ q fun z=>z),q];simp⟩⟩
 by_cases qN:b=e
 ·subst qN;exact tL
 ·exact ⟨u,k b u qN q⟩
end
def yr (h:Heap)(H:Hp):List Addr:=(List.range h.objs.size).filter fun a=>(H a).isSome
def m4 (h:Heap)(H:Hp):Heap:=hideAll h (yr h H)
theorem TY (h:Heap)(H:Hp):(m4 h H).objs.size=h.objs.size:=PySem.W.hideAll_size _ _
theorem UP {h:Heap}{H:Hp}{b:Addr}{o:Obj}(e:h.get? b=some o)(n:H b=none):(m4 h H).get? b=some o :=
 ab5 _ e fun hm=>by
  have q:(H b).isSome=true:=(acQ.mp hm).2
  rw [n] at q;simp at q
theorem VE {h:Heap}{H:Hp}{b:Addr}{o:Obj}(e:(m4 h H).get? b=some o):h.get? b=some o/\H b=none:=by
 have e':h.get? b=some o:=acz (yr h H) e
 refine ⟨e',?_⟩
 cases q:H b with
 |none=>rfl
 |some x =>
  have hm:b ∈ yr h H:=acQ.mpr ⟨NO.mpr (lp e'),by simp [q]⟩
  have z:(m4 h H).get? b=none:=PySem.W.hideAll_none (yr h H) hm
  rw [z] at e;cases e
structure Mod (K:Frag) (mg:Str->Option Value) (base:Heap):Prop where
 nk:K.In base
 glob:base.Ns mainGlobals mg
 blt:∃ mb,base.Ns builtinsNs mb/\∀ x:Str,x ≠ "__name__" -> mb x=bootBuiltins x
 nolimit:base.NoLimit
structure Cx where
 prog:Program
 w:World
 K:Frag
 mg:Str->Option Value
 base:Heap
 A:Around
 N:List Str
 bW:Shared
 vw:Hp
 env:Env
 outer:List Env
 stack:List Env
 ex:List Addr
 fn:Str->Bool
 calm:Bool
 pn:List (Addr×Obj)
 xe:Value->Shared->Prop
def bg (l:List Env):List Addr:=l.filterMap (·.frame)
abbrev Cx.fs (X:Cx):List Addr:=bg X.outer
def kC (sc:Scope)(x:Str):Prop:=sc.names.lookup x=some .local\/sc.names.lookup x=some .cell\/sc.names.lookup x=some .free
def Loc (sc:Scope)(x:Str):Prop:=sc.names.lookup x=some .local\/sc.names.lookup x=some .cell
def Look (env:Env)(h:Heap)(m:Str->Option Value)(x:Str)(u:Value):Prop :=
 (env.kindOf x=some .local/\m x=some u)\/((env.kindOf x=some .cell\/env.kindOf x=some .free)/\∃ c,env.cells.lookup x=some c/\h.IsCell c (some u))
structure Cx.Ok (X:Cx):Prop where
 mod:Mod X.K X.mg X.base
 kind:X.env.scope.kind=.function
 glob:X.env.globals=mainGlobals
 blt:X.env.builtins=builtinsNs
 above:X.bW.heap.objs.size<=X.env.locals
 inj:∀ x y c,X.env.cells.lookup x=some c->X.env.cells.lookup y=some c->x=y
 has:∀ x,(X.env.kindOf x=some .cell\/X.env.kindOf x=some .free)->∃ c,X.env.cells.lookup x=some c
 lS:∀ x c,X.fn x=true->X.env.cells.lookup x=some c->X.bW.heap.objs.size<=c
 hd:X.calm=true->X.A.handled=none
 frames:X.A.frames=some X.stack
 j8:X.stack=X.outer\/(X.stack=X.env::X.outer/\X.env.frame=some X.env.locals)
 qO:∀ b ∈ X.ex,b ≠ X.env.locals/\∀ x c,X.env.cells.lookup x=some c->c ≠ b
 bs:∀ b o,X.base.get? b=some o->X.bW.heap.get? b=some o/\X.vw b=none
 iW:X.base.objs.size<=X.bW.heap.objs.size
 lM:∀ b o,X.base.get? b=some o->b ∉ X.ex
 m5:∀ b ∈ X.ex,b ∉ X.fs
 eu:X.bW.heap.FunFrames X.base X.outer
 gR:∀ b ∈ X.fs,X.vw b=none
structure Inv (X:Cx) (pins:List (Addr×Obj)) (σ:List (Option V)) (H:Hp) (s:Shared):Prop where
 ok:X.Ok
 os:s.os=X.bW.os
 bare:AllBare s.gens
 base:Un X.fs X.ex X.vw H X.bW.heap s.heap
 loc:∃ m,s.heap.Ns X.env.locals m/\∀ (i:Nat) (x:Str) (v:V),X.N[i]?=some x->σ[i]?=some (some v)->kC X.env.scope x->∃ u,RelV v u/\Look X.env s.heap m x u
 cell:∀ x c,X.env.cells.lookup x=some c->∃ v,s.heap.IsCell c v
 free:H X.env.locals=none
 gJ:∀ x c,X.env.cells.lookup x=some c->H c=none
 pin:∀ p ∈ X.pn++pins,s.heap.get? p.1=some p.2/\H p.1=none/\p.1 ≠ X.env.locals/\p.1 ∉ X.fs/\∀ v,p.2.data ≠ .cell v
 aq:cV X.prog X.w H s.heap
 len : σ.length=X.N.length
section
variable {X:Cx}{pins:List (Addr×Obj)}{σ:List (Option V)}{H H':Hp}{s:Shared}{h':Heap}
theorem Cx.Ok.Ys (ok:X.Ok){b:Addr}{o:Obj}(e:X.base.get? b=some o):b ∉ X.fs:=fun hb=>by
 have:=(ok.eu.mem hb).1
 rw [e] at this;cases this
theorem Inv.bs (I:Inv X pins σ H s):∀ b o,X.base.get? b=some o->s.heap.get? b=some o/\H b=none:=fun b o e =>
 ⟨I.base.keep b o (I.ok.bs b o e).1 (I.ok.bs b o e).2 (I.ok.Ys e) (I.ok.lM b o e),I.base.free b o (I.ok.bs b o e).1 (I.ok.bs b o e).2 (I.ok.lM b o e)⟩
theorem Inv.bk (I:Inv X pins σ H s):∀ b o,X.base.get? b=some o->s.heap.get? b=some o:=fun b o e=>(I.bs b o e).1
theorem Inv.mod (I:Inv X pins σ H s):Mod X.K X.mg X.base:=I.ok.mod
theorem Inv.cB (I:Inv X pins σ H s):X.K.In s.heap:=I.ok.mod.nk.keeps I.bk
theorem Inv.lt (I:Inv X pins σ H s):X.env.locals<s.heap.objs.size:=let ⟨_,hn,_⟩:=I.loc;hn.lt
theorem Inv.sz (I:Inv X pins σ H s):X.bW.heap.objs.size<=s.heap.objs.size:=EM I.ok.above (Nat.le_of_lt I.lt)
theorem Inv.Yt (I:Inv X pins σ H s){a:Addr}(h:s.heap.objs.size<=a):a ∉ X.fs:=fun hb=>by
 obtain ⟨_,o,ho,_⟩:=I.ok.eu.mem hb
 exact absurd (rb (lp ho) (EM I.sz h)) (LM _)
theorem Inv.nq (I:Inv X pins σ H s):∀ x c,X.env.cells.lookup x=some c->c ≠ X.env.locals:=fun x c e z=>by
 obtain ⟨v,o,ho,hd⟩:=I.cell x c e
 obtain ⟨m,⟨o',es,ep,cu,kD,_⟩,_⟩:=I.loc
 rw [z,cu] at ho;cases ho;rw [kD] at hd;cases hd
theorem Inv.eu (I:Inv X pins σ H s):s.heap.FunFrames X.base X.outer:=by
 have all:∀ (l:List Env),(∀ b ∈ bg l,b ∈ X.fs)->X.bW.heap.FunFrames X.base l->s.heap.FunFrames X.base l:=by
  intro l
  induction l with
  |nil=>intro _ _;trivial
  |cons env r ih =>
   intro hs hl
   obtain ⟨hk,⟨L,o,hf,hn,ho,hd⟩,hr⟩:=hl
   have hL:L ∈ X.fs:=hs L (by unfold bg;rw [Lu,hf];exact abP)
   obtain ⟨sl,e⟩:=I.base.slot L o ho (I.ok.gR L hL) hL fun z=>I.ok.m5 L z hL
   exact ⟨hk,⟨L,_,hf,hn,e,hd⟩,ih (fun b hb=>hs b (by unfold bg;rw [Lu,hf];exact LH _ hb)) hr⟩
 exact all X.outer (fun _ hb=>hb) I.ok.eu
theorem Inv.stack (I:Inv X pins σ H s):s.heap.FunFrames X.base X.stack:=by
 rcases I.ok.j8 with e | ⟨e,hf⟩
 ·rw [e];exact I.eu
 ·rw [e]
  obtain ⟨m,hn,_⟩:=I.loc
  refine .cons (by rw [I.ok.kind];decide) hf hn ?_ I.eu
  exact Heap.get?_none_of_le (EM I.ok.iW I.ok.above)
theorem Inv.jO (I:Inv X pins σ H s):∀ b ∈ bg X.stack,b ∈ X.env.locals::X.fs:=fun b hb=>by
 rcases I.ok.j8 with e | ⟨e,hf⟩
 ·rw [e] at hb;exact LH _ hb
 ·rw [e] at hb
  unfold bg at hb
  rw [Lu,hf] at hb
  exact hb
theorem Inv.wW (I:Inv X pins σ H s):∀ b ∈ bg X.stack,H b=none:=fun b hb=>by
 rcases gr.mp (I.jO b hb) with e | hb
 ·rw [e];exact I.free
 ·obtain ⟨_,o,ho,_⟩:=I.ok.eu.mem hb
  exact I.base.free b o ho (I.ok.gR b hb) fun z=>I.ok.m5 b z hb
theorem Inv.step {g':Array GenState}{t':Nat}{d':Drawn}{ch:List Addr}(I:Inv X pins σ H s)(lT:∀ b ∈ ch,(b ∈ X.ex\/X.bW.heap.objs.size<=b)/\b ≠ X.env.locals/\(∀ x c,X.env.cells.lookup x=some c->c ≠ b)/\∀ p ∈ X.pn++pins,p.1 ≠ b)(keep:∀ b o,b ≠ X.env.locals->b ∉ X.fs->b ∉ ch->s.heap.get? b=some o->H b=none->h'.get? b=some o)(slot:∀ b o,b ≠ X.env.locals->b ∈ X.fs->b ∉ ch->s.heap.get? b=some o->H b=none->∃ sl,h'.get? b=some { o with slots:=sl })(free:∀ b o,b ∉ ch->s.heap.get? b=some o->H b=none->H' b=none)(there:∀ b o,b ∉ ch->s.heap.get? b=some o->∃ o',h'.get? b=some o')(dJ:∀ b xs,H b=some (.tup xs)->H' b=some (.tup xs))(dF:∀ b o u,H b=some (.dt o u)->H' b=some (.dt o u))(dN:∀ b ps,H b=some (.j7 ps)->∃ more,H' b=some (.j7 (ps++more)))(ns:∀ m,s.heap.Ns X.env.locals m->h'.Ns X.env.locals m)(aq:cV X.prog X.w H' h')(hg:AllBare g') :
  Inv X pins σ H' { s with heap:=h',gens:=g',drawn:=d',toks:=t' }:=by
 have tM:∀ b o,X.bW.heap.get? b=some o->b ≠ X.env.locals:=fun b o e=>xp (rb (lp e) I.ok.above)
 have yu:∀ b o,X.bW.heap.get? b=some o->b ∉ X.ex->b ∉ ch:=fun b o e hx hb=>by
  rcases (lT b hb).1 with z | z
  ·exact hx z
  ·exact absurd (rb (lp e) z) (LM _)
 have cellK:∀ x c,X.env.cells.lookup x=some c->∀ v,s.heap.IsCell c v->h'.IsCell c v:=fun x c e v ⟨o,ho,hd⟩=>by
  have vN:c ∉ ch:=fun z=>(lT c z).2.2.1 x c e rfl
  by_cases hc:c ∈ X.fs
  ·obtain ⟨sl,q⟩:=slot c o (I.nq x c e) hc vN ho (I.gJ x c e)
   exact ⟨_,q,hd⟩
  ·exact ⟨o,keep c o (I.nq x c e) hc vN ho (I.gJ x c e),hd⟩
 refine ⟨I.ok,I.os,hg,⟨fun b o e n hb hx=>?_,fun b o e n hb hx=>?_,fun b o e n hx=>?_,fun b o e hx=>?_,fun b xs e=>dJ b xs (I.base.dJ b xs e),fun b o xs e=>dF b o xs (I.base.dF b o xs e),fun b ps e=>?_⟩,?_,fun x c e=>?_,?_,fun x c e=>?_,fun p hp=>?_,aq,I.len⟩
 ·exact keep b o (tM b o e) hb (yu b o e hx) (I.base.keep b o e n hb hx) (I.base.free b o e n hx)
 ·obtain ⟨sl,e1⟩:=I.base.slot b o e n hb hx
  obtain ⟨yv,e2⟩:=slot b _ (tM b o e) hb (yu b o e hx) e1 (I.base.free b o e n hx)
  exact ⟨yv,e2⟩
 ·obtain ⟨o',e1⟩:=I.base.there b o e hx
  exact free b o' (yu b o e hx) e1 (I.base.free b o e n hx)
 ·obtain ⟨o',e1⟩:=I.base.there b o e hx
  exact there b o' (yu b o e hx) e1
 ·obtain ⟨m1,e1⟩:=I.base.dN b ps e
  obtain ⟨m2,e2⟩:=dN b _ e1
  exact ⟨m1++m2,by rw [e2,acA]⟩
 ·obtain ⟨m,hn,hl⟩:=I.loc
  refine ⟨m,ns m hn,fun i x v e1 e2 e3=>?_⟩
  obtain ⟨u,r,l⟩:=hl i x v e1 e2 e3
  refine ⟨u,r,?_⟩
  rcases l with l | ⟨k,c,e,z⟩
  ·exact .inl l
  ·exact .inr ⟨k,c,e,cellK x c e _ z⟩
 ·obtain ⟨v,z⟩:=I.cell x c e
  exact ⟨v,cellK x c e v z⟩
 ·obtain ⟨m,⟨o,_,_,ho,_⟩,_⟩:=I.loc
  exact free _ o (fun z=>(lT _ z).2.1 rfl) ho I.free
 ·obtain ⟨v,o,ho,hd⟩:=I.cell x c e
  exact free c o (fun z=>(lT c z).2.2.1 x c e rfl) ho (I.gJ x c e)
 ·obtain ⟨e,n,ne,nf,d⟩:=I.pin p hp
  have vN:p.1 ∉ ch:=fun z=>(lT p.1 z).2.2.2 p hp rfl
  exact ⟨keep p.1 p.2 ne nf vN e n,free p.1 p.2 vN e n,ne,nf,d⟩
theorem Inv.un {t':Nat}(I:Inv X pins σ H s)(u:Un X.fs [] H H' s.heap h')(aq:cV X.prog X.w H' h'):Inv X pins σ H' { s with heap:=h',toks:=t' }:=by
 obtain ⟨m,⟨o,es,ep,ho,r⟩,_⟩:=id I.loc
 obtain ⟨sl,hL⟩:=u.any ho I.free (by simp)
 exact I.step (g':=s.gens) (d':=s.drawn) (ch:=[]) (fun _ z=>nomatch z) (fun b o _ hb _ e n=>u.keep b o e n hb (by simp)) (fun b o _ hb _ e n=>u.slot b o e n hb (by simp)) (fun b o _ e n=>u.free b o e n (by simp)) (fun b o _ e=>u.there b o e (by simp)) u.dJ u.dF u.dN (fun m' hm=>by
  obtain ⟨o',FU,FV,cu,r'⟩:=hm
  rw [ho] at cu;cases cu
  exact ⟨_,FU,FV,hL,r'⟩) aq I.bare
theorem Inv.call {g':Array GenState}{t':Nat}{d':Drawn}{ch:List Addr}(I:Inv X pins σ H s)(u:Un (bg X.stack) ch H H' s.heap h')(aq:cV X.prog X.w H' h')(hg:AllBare g')(lT:∀ b ∈ ch,(b ∈ X.ex\/X.bW.heap.objs.size<=b)/\b ≠ X.env.locals/\(∀ x c,X.env.cells.lookup x=some c->c ≠ b)/\∀ p ∈ X.pn++pins,p.1 ≠ b) :
  Inv X pins σ H' { s with heap:=h',gens:=g',drawn:=d',toks:=t' }:=by
 obtain ⟨m,⟨o,es,ep,ho,r⟩,_⟩:=id I.loc
 obtain ⟨sl,hL⟩:=u.any ho I.free fun z=>(lT _ z).2.1 rfl
 exact I.step (ch:=ch) lT (fun b o hL hb hc e n=>u.keep b o e n (fun z=>(gr.mp (I.jO b z)).elim hL hb) hc) (fun b o _ _ hc e n=>u.any e n hc) (fun b o hc e n=>u.free b o e n hc) (fun b o hc e=>u.there b o e hc) u.dJ u.dF u.dN (fun m' hm=>by
  obtain ⟨o',FU,FV,cu,r'⟩:=hm
  rw [ho] at cu;cases cu
  exact ⟨_,FU,FV,hL,r'⟩) aq hg
theorem Inv.turned {t':Nat}{it:Addr}(I:Inv X pins σ H s)(k:∀ b o,b ≠ it->s.heap.get? b=some o->h'.get? b=some o)(hn:H it=none)(hL:it ≠ X.env.locals)(h1:it ∈ X.ex\/X.bW.heap.objs.size<=it)(h2:∀ x c,X.env.cells.lookup x=some c->c ≠ it)(h3:∀ p ∈ X.pn++pins,p.1 ≠ it):Inv X pins σ H { s with heap:=h',toks:=t' }:=by
 have oS:∀ b u,H b=some u->b ≠ it:=fun b u e z=>by rw [z,hn] at e;cases e
 refine I.step (g':=s.gens) (d':=s.drawn) (ch:=[it]) (fun b hb=>?_) (fun b o _ _ hc e _=>k b o (fun z=>hc (by simp [z])) e) (fun b o _ _ hc e _=>⟨o.slots,k b o (fun z=>hc (by simp [z])) e⟩) (fun _ _ _ _ n=>n)
  (fun b o hc e=>⟨o,k b o (fun z=>hc (by simp [z])) e⟩) (fun _ _ e=>e) (fun _ _ _ e=>e) (fun b ps e=>⟨#[],by rw [e];simp⟩) (fun m hm=>?_) (fun b u e=>?_) I.bare
 ·have e:b=it:=by simpa using hb
  subst e
  exact ⟨h1,hL,h2,h3⟩
 ·obtain ⟨o,es,ep,ho,r⟩:=hm
  exact ⟨o,es,ep,k _ o (abc hL) ho,r⟩
 ·refine (I.aq b u e).hJ (fun c v hc q=>k c v ?_ q) (fun _ q=>q) fun _ _ q=>q
  rcases hc with z | z
  ·rw [z];exact oS b u e
  ·exact oS c _ z
theorem Inv.tok (I:Inv X pins σ H s)(t:Nat):Inv X pins σ H { s with toks:=t }:=I.un (h':=s.heap) (t':=t) Un.refl I.aq
theorem Inv.kept {t':Nat}(I:Inv X pins σ H s)(k:∀ b u,s.heap.get? b=some u->h'.get? b=some u):Inv X pins σ H { s with heap:=h',toks:=t' }:=I.un (Un.kept k) (I.aq.kept k)
theorem Inv.laid {a:Addr}{o:HO}{t':Nat}(I:Inv X pins σ H s)(k:∀ b u,s.heap.get? b=some u->h'.get? b=some u)(hp:s.heap.objs.size<=a)(new:dD X.prog X.w (upd H a o) h' a o) :
  Inv X pins σ (upd H a o) { s with heap:=h',toks:=t' }:=I.un (Un.laid k hp (I.aq.fresh hp)) (I.aq.laid k hp new)
theorem Inv.write {x e:Addr}{o:HO}{t':Nat}(I:Inv X pins σ H s)(mu:yq (H x))(he:e=x\/H e=some (.own x))(k:∀ b u,b ≠ e->s.heap.get? b=some u->h'.get? b=some u)(tL:∃ u,h'.get? e=some u)(new:dD X.prog X.w (upd H x o) h' x o):Inv X pins σ (upd H x o) { s with heap:=h',toks:=t' }:=I.un (Un.write mu he k tL) (I.aq.write mu he k tL new)
theorem Inv.Le {mU:List (Addr×Obj)}(I:Inv X pins σ H s)(h:∀ p ∈ mU,s.heap.get? p.1=some p.2/\H p.1=none/\p.1 ≠ X.env.locals/\p.1 ∉ X.fs/\∀ v,p.2.data ≠ .cell v):Inv X mU σ H s :=
 ⟨I.ok,I.os,I.bare,I.base,I.loc,I.cell,I.free,I.gJ,fun p hp=>(ij.mp hp).elim (fun z=>I.pin p (rf _ z)) (h p),I.aq,I.len⟩
theorem C5 {N:List Str}(hN:N.Nodup){i j:Nat}{x:Str}(a:N[i]?=some x)(b:N[j]?=some x):i=j:=by
 obtain ⟨h1,e1⟩:=gz.mp a
 obtain ⟨h2,e2⟩:=gz.mp b
 exact (aaa hN).mp (e1.trans e2.symm)
theorem Cm {M:Model}{A:Around}{E:Value->Shared->Prop}{i:Nat}{x:Str}{v:V}{u:Value}{Q:Unit->Shared->Prop}(I:Inv X pins σ H s)(hN:X.N.Nodup)(hi:X.N[i]?=some x)(hx:Loc X.env.scope x)(r:RelV v u)(h:∀ s',Inv X pins (σ.set i (some v)) H s'->(∃ a,Heap.SameBut a s.heap s'.heap/\(a=X.env.locals\/X.env.cells.lookup x=some a))->Q () s')(hf:X.fn x=true\/X.env.scope.names.lookup x=some .local:=by first | exact .inl rfl | exact .inr rfl | assumption):wpAny M A (storeName X.env x u) Q E s:=by
 obtain ⟨m,hn,hl⟩:=id I.loc
 have sX:(X.env.scope.kind==.class || (X.env.scope.kind==.module&&X.env.locals != X.env.globals))=false:=by rw [I.ok.kind];rfl
 have NX:i < σ.length:=by rw [I.len];exact (gz.mp hi).1
 have nq:=I.nq
 have tracked:∀ {a:Addr} {h':Heap},(∃ o,s.heap.get? a=some o/\H a=none)->Heap.SameBut a s.heap h'->cV X.prog X.w H h':=fun {a h'} ha hs b ob e=>by
  obtain ⟨_,_,oy⟩:=ha
  refine (I.aq b ob e).hJ (fun c w' hc q=>(hs.2 c ?_).trans q) (fun _ q=>q) fun _ _ q=>q
  rintro rfl
  rcases hc with rfl | hc
  ·rw [oy] at e;cases e
  ·rw [oy] at hc;cases hc
 rcases hx with hk | hk
 ·refine wpAny_storeName_local hk hn (fun h' vO hs=>?_) sX
  obtain ⟨oL,_,_,hoL,_⟩:=id hn
  refine h _ ⟨I.ok,I.os,I.bare,⟨fun b o e n hb hx=>?_,fun b o e n hb hx=>?_,I.base.free,fun b o e hx=>?_,I.base.dJ,I.base.dF,I.base.dN⟩,⟨_,vO,fun j y v' e1 e2 e3=>?_⟩,fun y c e=>?_,I.free,I.gJ,fun p hp=>?_,tracked ⟨oL,hoL,I.free⟩ hs,by simpa using I.len⟩ ⟨_,hs,.inl rfl⟩
  ·exact (hs.2 b (xp (rb (lp e) I.ok.above))).trans (I.base.keep b o e n hb hx)
  ·obtain ⟨sl,e1⟩:=I.base.slot b o e n hb hx
   exact ⟨sl,(hs.2 b (xp (rb (lp e) I.ok.above))).trans e1⟩
  ·obtain ⟨o',e1⟩:=I.base.there b o e hx
   exact ⟨o',(hs.2 b (xp (rb (lp e) I.ok.above))).trans e1⟩
  ·by_cases hj:j=i
   ·subst hj
    rw [hi] at e1;cases e1
    rw [EU NX] at e2
    cases e2
    exact ⟨u,r,.inl ⟨hk,by simp⟩⟩
   ·rw [B0 (abc hj)] at e2
    obtain ⟨u',r',q⟩:=hl j y v' e1 e2 e3
    refine ⟨u',r',?_⟩
    rcases q with ⟨k,e⟩ | ⟨k,c,e,z⟩
    ·refine .inl ⟨k,?_⟩
     have:y ≠ x:=fun e=>hj (C5 hN e1 (e ▸ hi))
     simp [this,e]
    ·exact .inr ⟨k,c,e,z.sameBut hs (nq y c e)⟩
  ·obtain ⟨w',z⟩:=I.cell y c e
   exact ⟨w',z.sameBut hs (nq y c e)⟩
  ·obtain ⟨e,n,ne,nf,d⟩:=I.pin p hp
   exact ⟨(hs.2 p.1 ne).trans e,n,ne,nf,d⟩
 ·have FW:X.fn x=true:=by
   rcases hf with z | z
   ·exact z
   ·rw [z] at hk;cases hk
  obtain ⟨c,hc⟩:=I.ok.has x (.inl hk)
  obtain ⟨w',z⟩:=I.cell x c hc
  refine wpAny_storeName_cell I.ok.kind hk hc z (fun h' fT hs=>?_)
  obtain ⟨oc,PR,Yu⟩:=id z
  refine h { s with heap:=h' } ⟨I.ok,I.os,I.bare,⟨fun b o e n hb hx=>?_,fun b o e n hb hx=>?_,I.base.free,fun b o e hx=>?_,I.base.dJ,I.base.dF,I.base.dN⟩,⟨m,hn.sameBut hs (abc (nq x c hc)),fun j y v' e1 e2 e3=>?_⟩,fun y c' e=>?_,I.free,I.gJ,fun p hp=>?_,tracked ⟨oc,PR,I.gJ x c hc⟩ hs,by simpa using I.len⟩ ⟨c,hs,.inr hc⟩
  ·exact (hs.2 b (xp (rb (lp e) (I.ok.lS x c FW hc)))).trans (I.base.keep b o e n hb hx)
  ·obtain ⟨sl,e1⟩:=I.base.slot b o e n hb hx
   exact ⟨sl,(hs.2 b (xp (rb (lp e) (I.ok.lS x c FW hc)))).trans e1⟩
  ·obtain ⟨o',e1⟩:=I.base.there b o e hx
   exact ⟨o',(hs.2 b (xp (rb (lp e) (I.ok.lS x c FW hc)))).trans e1⟩
  ·by_cases hj:j=i
   ·subst hj
    rw [hi] at e1;cases e1
    rw [EU NX] at e2
    cases e2
    exact ⟨u,r,.inr ⟨.inl hk,c,hc,fT⟩⟩
   ·rw [B0 (abc hj)] at e2
    obtain ⟨u',r',q⟩:=hl j y v' e1 e2 e3
    refine ⟨u',r',?_⟩
    rcases q with q | ⟨k,c',e,z'⟩
    ·exact .inl q
    ·refine .inr ⟨k,c',e,z'.sameBut hs ?_⟩
     rintro rfl
     exact hj (C5 hN e1 (I.ok.inj _ _ _ e hc ▸ hi))
  ·by_cases kE:c'=c
   ·subst kE;exact ⟨_,fT⟩
   ·obtain ⟨w2,z2⟩:=I.cell y c' e
    exact ⟨w2,z2.sameBut hs kE⟩
  ·obtain ⟨e,n,ne,nf,d⟩:=I.pin p hp
   refine ⟨(hs.2 p.1 ?_).trans e,n,ne,nf,d⟩
   intro q
   rw [q,PR] at e
   have q':oc=p.2:=AE e
   exact d w' (by rw [<- q'];exact Yu)
theorem wH {M:Model}{A:Around}{E:Value->Shared->Prop}{i:Nat}{x:Str}{v:V}{u:Value}{Q:Unit->Shared->Prop}(I:Inv X pins σ H s)(hN:X.N.Nodup)(hi:X.N[i]?=some x)(hx:Loc X.env.scope x)(r:RelV v u)(h:∀ s',Inv X pins (σ.set i (some v)) H s'->Q () s')(hf:X.fn x=true\/X.env.scope.names.lookup x=some .local:=by first | exact .inl rfl | exact .inr rfl | assumption):wpAny M A (storeName X.env x u) Q E s :=
 Cm I hN hi hx r (fun s' I' _=>h s' I') hf
theorem Inv.sS {s':Shared}{ch:List Addr}(I:Inv X pins σ H s)(ho:s'.os=s.os)(u:Un (bg X.stack) ch H H' s.heap s'.heap)(aq:cV X.prog X.w H' s'.heap)(hg:AllBare s'.gens)(lT:∀ b ∈ ch,(b ∈ X.ex\/X.bW.heap.objs.size<=b)/\b ≠ X.env.locals/\(∀ x c,X.env.cells.lookup x=some c->c ≠ b)/\∀ p ∈ X.pn++pins,p.1 ≠ b):Inv X pins σ H' s':=by
 obtain ⟨h',g',d',t',o'⟩:=s'
 have e:o'=s.os:=ho
 subst e
 exact I.call (g':=g') (t':=t') (d':=d') u aq hg lT
end
abbrev XK:=Value->Option Addr->Hp->Prop
abbrev St:=List (Option V)
abbrev VK:=V->Hp->Prop
abbrev TE:=St->Hp->VK->Prop
abbrev TT:=St->Hp->(Bool->Hp->Prop)->Prop
abbrev TA:=St->Hp->(List V->Hp->Prop)->Prop
structure Ends where
 nx:St->Hp->Prop
 rt:VK
 bk:St->Hp->Prop:=fun _ _=>False
 ct:St->Hp->Prop:=fun _ _=>False
abbrev TS:=Ends->St->Hp->Prop
def EP (X:Cx)(pins:List (Addr×Obj))(σ:St)(Q:VK)(u:Value)(s':Shared):Prop:=∃ v H',Inv X pins σ H' s'/\RelV v u/\Q v H'
def TP (X:Cx)(pins:List (Addr×Obj))(σ:St)(Q:Bool->Hp->Prop)(b:Bool)(s':Shared):Prop:=∃ H',Inv X pins σ H' s'/\Q b H'
def AP (X:Cx)(pins:List (Addr×Obj))(σ:St)(Q:List V->Hp->Prop)(us:List Value)(s':Shared):Prop:=∃ vs H',Inv X pins σ H' s'/\Vals vs us/\Q vs H'
def SP (X:Cx)(pins:List (Addr×Obj))(D:Ends)(f:Flow)(s':Shared):Prop :=
 match f with
 | .next=>∃ aA H',Inv X pins aA H' s'/\D.nx aA H'
 | .brk=>∃ aA H',Inv X pins aA H' s'/\D.bk aA H'
 | .cont=>∃ aA H',Inv X pins aA H' s'/\D.ct aA H'
 | .ret u=>∃ v aA H',Inv X pins aA H' s'/\RelV v u/\D.rt v H'
def PE (X:Cx)(e:Expr)(t:TE):Prop :=
 ∀ (pins:List (Addr×Obj)) (s:Shared) (σ:St) (H:Hp) (Q:VK),Inv X pins σ H s->t σ H Q->wpAny (model X.prog X.w) X.A (eval e X.env) (EP X pins σ Q) X.xe s
def PT (X:Cx)(e:Expr)(t:TT):Prop :=
 ∀ (pins:List (Addr×Obj)) (s:Shared) (σ:St) (H:Hp) (Q:Bool->Hp->Prop),Inv X pins σ H s->t σ H Q->wpAny (model X.prog X.w) X.A (isTrue e X.env (eval e X.env)) (TP X pins σ Q) X.xe s
def PW (X:Cx)(e:Expr)(t:TT):Prop :=
 ∀ (whole:Sem Value) (pins:List (Addr×Obj)) (s:Shared) (σ:St) (H:Hp) (Q:Bool->Hp->Prop),Inv X pins σ H s->t σ H Q->wpAny (model X.prog X.w) X.A (isTrue e X.env whole) (TP X pins σ Q) X.xe s
theorem PW.pt {X:Cx}{e:Expr}{t:TT}(h:PW X e t):PT X e t:=h _
def PA (X:Cx)(es:List Expr)(t:TA):Prop :=
 ∀ (pos:Pos) (pins:List (Addr×Obj)) (s:Shared) (σ:St) (H:Hp) (Q:List V->Hp->Prop),Inv X pins σ H s->t σ H Q->wpAny (model X.prog X.w) X.A (spliced (backTo pos (starEach es X.env))) (AP X pins σ Q) X.xe s
def PS (X:Cx)(st:Stmt)(t:TS):Prop :=
 ∀ (pins:List (Addr×Obj)) (s:Shared) (σ:St) (H:Hp) (D:Ends),Inv X pins σ H s->t D σ H->wpAny (model X.prog X.w) X.A (exec st X.env) (SP X pins D) X.xe s
def df (X:Cx)(st:List Stmt)(t:TS):Prop :=
 ∀ (pins:List (Addr×Obj)) (s:Shared) (σ:St) (H:Hp) (D:Ends),Inv X pins σ H s->t D σ H->wpAny (model X.prog X.w) X.A (execs st X.env) (SP X pins D) X.xe s
theorem aj {α:Type}{t:Sem α}{Q Q' : α->Shared->Prop}{M:Model}{A:Around}{E:Value->Shared->Prop}{s:Shared}(h:wpAny M A t Q E s)(hQ:∀ a s,Q a s->Q' a s):wpAny M A t Q' E s:=ET h hQ fun _ _ x=>x
section
variable {X:Cx}
def bD (i:Nat):TE:=fun σ H Q=>∃ v,σ[i]?=some (some v)/\Q v H
def tC (v:V):TE:=fun _ H Q=>Q v H
theorem p7 {i:Nat}{x:Str}{pos:Pos}(hN:X.N[i]?=some x)(hv:kC X.env.scope x)(hd:(x==("__debug__" : Str))=false:=by decide)(ie:(x==("__classdict__" : Str))=false:=by decide):PE X (.Name x pos) (bD i):=by
 intro pins s σ H Q I h
 obtain ⟨v,e,h⟩:=h
 obtain ⟨m,hn,hl⟩:=I.loc
 obtain ⟨u,r,l⟩:=hl i x v hN e hv
 have fin:EP X pins σ Q u s:=⟨v,H,I,r,h⟩
 rcases l with ⟨hk,hm⟩ | ⟨hk,c,hc,M1⟩
 ·exact wpAny_Name (wpAny_loadName_local I.ok.kind hk hn hm fin) hd
 ·rcases hk with hk | hk
  ·exact wpAny_Name (wpAny_loadName_cell I.ok.kind hk hc M1 fin) hd
  ·exact wpAny_Name (wpAny_loadName_free I.ok.kind hk hc M1 fin ie) hd
theorem D0 {i j pos}:PE X (.Constant (.int i) j pos) (tC (.int i)):=fun _ _ _ H _ I h=>wpAny_Constant_int ⟨.int i,H,I.tok _,⟨_,rfl⟩,h⟩
theorem XT {b j pos}:PE X (.Constant (.bool b) j pos) (tC (.bl b)):=fun _ _ _ H _ I h=>Constant_bool ⟨.bl b,H,I,rfl,h⟩
theorem WB {j pos}:PE X (.Constant .none j pos) (tC .aN):=fun _ _ _ H _ I h=>Constant_none ⟨.aN,H,I,rfl,h⟩
theorem xv {x j pos}:PE X (.Constant (.str x) j pos) (tC (.str x)):=fun _ _ _ H _ I h=>abQ ⟨.str x,H,I.tok _,⟨_,rfl⟩,h⟩
def Gl (X:Cx)(x:Str):Prop:=X.env.kindOf x=some .globalImplicit
theorem pS {E:Value->Shared->Prop}{pins:List (Addr×Obj)}{s:Shared}{σ:St}{H:Hp}{x:Str}{u:Value}{pos:Pos}{Q:Value->Shared->Prop}(I:Inv X pins σ H s)(hg:Gl X x)(hm:X.mg x=some u)(h:Q u s)(hd:(x==("__debug__" : Str))=false:=by decide):wpAny (model X.prog X.w) X.A (eval (.Name x pos) X.env) Q E s :=
 SO I.ok.kind hg (abR (by rw [I.ok.glob];exact I.mod.glob.keeps I.bk) hm h) hd
theorem n8 {E:Value->Shared->Prop}{pins:List (Addr×Obj)}{s:Shared}{σ:St}{H:Hp}{x:Str}{u:Value}{pos:Pos}{Q:Value->Shared->Prop}(I:Inv X pins σ H s)(hg:Gl X x)(hm:X.mg x=none)(hv:bootBuiltins x=some u)(h:Q u s)(hn:x ≠ "__name__" := by decide)(hd:(x==("__debug__" : Str))=false:=by decide):wpAny (model X.prog X.w) X.A (eval (.Name x pos) X.env) Q E s:=by
 obtain ⟨mb,h1,h2⟩:=I.mod.blt
 exact SO I.ok.kind hg (Calls.loadGlobal_builtin (by rw [I.ok.glob];exact I.mod.glob.keeps I.bk) hm (by rw [I.ok.blt];exact h1.keeps I.bk) ((h2 x hn).trans hv) h) hd
theorem iw {x:Str}{v:V}{u:Value}{pos:Pos}(hg:Gl X x)(hm:X.mg x=some u)(r:RelV v u)(hd:(x==("__debug__" : Str))=false:=by decide):PE X (.Name x pos) (tC v) :=
 fun _ _ _ H _ I h=>pS I hg hm ⟨v,H,I,r,h⟩ hd
theorem Lf {x:Str}{v:V}{u:Value}{pos:Pos}(hg:Gl X x)(hm:X.mg x=none)(hv:bootBuiltins x=some u)(r:RelV v u)(hn:x ≠ "__name__" := by decide)(hd:(x==("__debug__" : Str))=false:=by decide):PE X (.Name x pos) (tC v) :=
 fun _ _ _ H _ I h=>n8 I hg hm hv ⟨v,H,I,r,h⟩ hn hd
variable {a b:Expr}{ta tb:TE}{pos:Pos}
def tB (t:TE):TT:=fun σ H Q=>t σ H fun x H1=>∃ c,x=.bl c/\Q c H1
theorem D1 {e:Expr}{t:TE}(h:PE X e t)(he:∀ whole,isTrue e X.env whole=(do let v <- whole;standAt e.pos;holding [v] (truthy v)):=by intro _;rfl):PT X e (tB t):=by
 intro pins s σ H Q I hw
 refine isTrue_plain (aj (h pins s σ H _ I hw) fun v s1 ⟨x,H1,I1,r1,q1⟩=>?_) (he _)
 obtain ⟨d,rfl,q⟩:=q1
 cases r1
 exact WI ⟨H1,I1,q⟩
variable {tA yw:TT}{rest:List Expr}
def E7 (t u:TT):TT:=fun σ H Q=>t σ H fun c H1=>if c=true then u σ H1 Q else Q false H1
def FX (t u:TT):TT:=fun σ H Q=>t σ H fun c H1=>if c=true then Q true H1 else u σ H1 Q
def NY (t:TT):TT:=fun σ H Q=>t σ H fun c H1=>Q (!c) H1
theorem VF (ha:PT X a tA):PW X (.BoolOp .And [a] pos) tA:=by
 intro wh pins s σ H Q I h
 refine isTrue_and (aj (ha pins s σ H Q I h) fun c s1 e=>?_)
 cases c with
 |true=>exact isTrue_and_nil e
 |false=>exact e
theorem WC (ha:PT X a tA):PW X (.BoolOp .Or [a] pos) tA:=by
 intro wh pins s σ H Q I h
 refine isTrue_or (aj (ha pins s σ H Q I h) fun c s1 e=>?_)
 cases c with
 |false=>exact isTrue_or_nil e
 |true=>exact e
theorem Mk (ha:PT X a tA)(hb:PW X (.BoolOp .And (b::rest) pos) yw):PW X (.BoolOp .And (a::b::rest) pos) (E7 tA yw):=by
 intro wh pins s σ H Q I h
 refine isTrue_and (aj (ha pins s σ H _ I h) fun c s1 ⟨H1,I1,q1⟩=>?_)
 cases c with
 |true=>exact hb wh pins s1 σ H1 Q I1 q1
 |false=>exact ⟨H1,I1,q1⟩
theorem M3 (ha:PT X a tA)(hb:PW X (.BoolOp .Or (b::rest) pos) yw):PW X (.BoolOp .Or (a::b::rest) pos) (FX tA yw):=by
 intro wh pins s σ H Q I h
 refine isTrue_or (aj (ha pins s σ H _ I h) fun c s1 ⟨H1,I1,q1⟩=>?_)
 cases c with
 |true=>exact ⟨H1,I1,q1⟩
 |false=>exact hb wh pins s1 σ H1 Q I1 q1
theorem WD (ha:PT X a tA):PT X (.UnaryOp .Not a pos) (NY tA):=by
 intro pins s σ H Q I h
 exact isTrue_not (ha pins s σ H (fun c H1=>Q (!c) H1) I h)
def Es (ta tb:TE):TE:=fun σ H Q=>ta σ H fun x H1=>∃ c,x=.bl c/\if c=true then tb σ H1 Q else Q (.bl false) H1
def E8 (ta tb:TE):TE:=fun σ H Q=>ta σ H fun x H1=>∃ c,x=.bl c/\if c=true then Q (.bl true) H1 else tb σ H1 Q
theorem WG {op}{t:TE}(h:PE X a t):PE X (.BoolOp op [a] pos) t:=fun pins s σ H Q I hw=>BoolOp_one (h pins s σ H Q I hw)
theorem Ml (ha:PE X a ta)(hb:PE X (.BoolOp .And (b::rest) pos) tb):PE X (.BoolOp .And (a::b::rest) pos) (Es ta tb):=by
 intro pins s σ H Q I h
 refine BoolOp_and (aj (ha pins s σ H _ I h) fun v s1 ⟨x,H1,I1,r1,q1⟩=>?_)
 obtain ⟨c,rfl,q1⟩:=q1
 cases r1
 refine WI ?_
 cases c with
 |true=>exact hb pins s1 σ H1 Q I1 q1
 |false=>exact ⟨.bl false,H1,I1,rfl,q1⟩
theorem M4 (ha:PE X a ta)(hb:PE X (.BoolOp .Or (b::rest) pos) tb):PE X (.BoolOp .Or (a::b::rest) pos) (E8 ta tb):=by
 intro pins s σ H Q I h
 refine BoolOp_or (aj (ha pins s σ H _ I h) fun v s1 ⟨x,H1,I1,r1,q1⟩=>?_)
 obtain ⟨c,rfl,q1⟩:=q1
 cases r1
 refine WI ?_
 cases c with
 |false=>exact hb pins s1 σ H1 Q I1 q1
 |true=>exact ⟨.bl true,H1,I1,rfl,q1⟩
end
def aF (K:Frag)(H:Hp)(a:Addr)(xs:List V):Prop :=
 Rd H a (.lst xs) \/
  ∃ (o:Obj) (its:Array Value) (n:Nat),K.lookup a=some o/\o.cls=.type "list" /\ o.dict=none/\o.data=.seq its n/\its.size<=sizeLine/\Vals xs its.toList
def eM (K:Frag)(H:Hp)(a:Addr)(xs:List V):Prop :=
 Rd H a (.tup xs) \/
  ∃ (o:Obj) (its:Array Value) (n:Nat),K.lookup a=some o/\o.cls=.type "tuple" /\ o.data=.seq its n/\its.size<=sizeLine/\Vals xs its.toList
def Yv:Value->Option V
 | .none=>some .aN
 | .bool b=>some (.bl b)
 | .int i _=>some (.int i)
 | .str x _=>some (.str x)
 | .bytes b _=>some (.jk b)
 | .float b _=>some (.oR b)
 | .ref a=>some (.ref a)
 | .type n=>some (.ty n)
 |_=>none
theorem RelV.abs {x:V}{u:Value}(r:RelV x u):Yv u=some x:=by
 cases x with
 |aN=>cases r;rfl
 |bl _=>cases r;rfl
 |int _=>obtain ⟨t,rfl⟩:=r;rfl
 |str _=>obtain ⟨t,rfl⟩:=r;rfl
 |jk _=>obtain ⟨t,rfl⟩:=r;rfl
 |oR _=>obtain ⟨t,rfl⟩:=r;rfl
 |ref _=>cases r;rfl
 |ty _=>cases r;rfl
theorem RelV.inj {x y:V}{u:Value}(r:RelV x u)(q:RelV y u):x=y:=AE (r.abs.symm.trans q.abs)
theorem Vals.inj:∀ {xs ys:List V} {us:List Value},Vals xs us->Vals ys us->xs=ys
 |_,_,_,.nil,.nil=>rfl
 |_,_,_,.cons r t,.cons r' t'=>by rw [r.inj r',Vals.inj t t']
section
variable {X:Cx}{pins:List (Addr×Obj)}{σ:St}{H:Hp}{s:Shared}{a:Addr}{xs ys:List V}
theorem aF.of {K:Frag}(h:H a=some (.lst xs)):aF K H a xs:=.inl (.inl h)
theorem eM.of {K:Frag}(h:H a=some (.tup xs)):eM K H a xs:=.inl (.inl h)
theorem Inv.list (I:Inv X pins σ H s)(h:aF X.K H a xs):∃ its:List Value,Vals xs its/\PlainL s.heap a its.toArray/\xs.length<=sizeLine:=by
 rcases h with h | ⟨o,its,n,hk,hc,hd,hs,hz,r⟩
 ·obtain ⟨z,its,n,r,e⟩:=h.ok I.aq
  exact ⟨its,r,⟨_,n,e,rfl,rfl,rfl⟩,z⟩
 ·refine ⟨its.toList,r,⟨o,n,I.cB a o hk,hc,hd,by simpa using hs⟩,?_⟩
  have e:=r.length
  simp only [AN] at e
  omega
theorem Inv.tuple (I:Inv X pins σ H s)(h:eM X.K H a xs):∃ its:List Value,Vals xs its/\IsTup s.heap a its.toArray/\xs.length<=sizeLine:=by
 rcases h with h | ⟨o,its,n,hk,hc,hs,hz,r⟩
 ·obtain ⟨z,its,r,p⟩:=h.ok I.aq
  exact ⟨its,r,p,z⟩
 ·refine ⟨its.toList,r,⟨o,I.cB a o hk,hc,n,by simpa using hs⟩,?_⟩
  have e:=r.length
  simp only [AN] at e
  omega
theorem Inv.Kj (I:Inv X pins σ H s)(h:aF X.K H a xs)(h':aF X.K H a ys):xs=ys:=by
 obtain ⟨its,r,⟨o,n,e,_,_,d⟩,_⟩:=I.list h
 obtain ⟨its',r',⟨o',n',e',_,_,d'⟩,_⟩:=I.list h'
 rw [e] at e';cases e'
 rw [d] at d'
 injection d' with d1 _
 have:its=its':=by simpa using congrArg Array.toList d1
 subst this
 exact r.inj r'
theorem Inv.TZ (I:Inv X pins σ H s)(h:eM X.K H a xs)(h':eM X.K H a ys):xs=ys:=by
 obtain ⟨its,r,⟨o,e,_,n,d⟩,_⟩:=I.tuple h
 obtain ⟨its',r',⟨o',e',_,n',d'⟩,_⟩:=I.tuple h'
 rw [e] at e';cases e'
 rw [d] at d'
 injection d' with d1 _
 have:its=its':=by simpa using congrArg Array.toList d1
 subst this
 exact r.inj r'
end
abbrev Cx.d9 (X:Cx)(E:Value->Shared->Prop):Cx:={ X with xe:=E }
abbrev Cx.du (X:Cx):Cx:=X.d9 fun _ _=>False
theorem Cx.Ok.d9 {X:Cx}(ok:X.Ok)(E:Value->Shared->Prop):(X.d9 E).Ok :=
 ⟨ok.mod,ok.kind,ok.glob,ok.blt,ok.above,ok.inj,ok.has,ok.lS,ok.hd,ok.frames,ok.j8,ok.qO,ok.bs,ok.iW,ok.lM,ok.m5,ok.eu,ok.gR⟩
theorem Cx.Ok.gj {X:Cx}{E:Value->Shared->Prop}(ok:(X.d9 E).Ok):X.Ok :=
 ⟨ok.mod,ok.kind,ok.glob,ok.blt,ok.above,ok.inj,ok.has,ok.lS,ok.hd,ok.frames,ok.j8,ok.qO,ok.bs,ok.iW,ok.lM,ok.m5,ok.eu,ok.gR⟩
section
variable {X:Cx}{pins:List (Addr×Obj)}{σ:St}{H:Hp}{s:Shared}{E:Value->Shared->Prop}
theorem Inv.d9 (I:Inv X pins σ H s)(E:Value->Shared->Prop):Inv (X.d9 E) pins σ H s:=⟨I.ok.d9 E,I.os,I.bare,I.base,I.loc,I.cell,I.free,I.gJ,I.pin,I.aq,I.len⟩
theorem Inv.gj (I:Inv (X.d9 E) pins σ H s):Inv X pins σ H s:=⟨I.ok.gj,I.os,I.bare,I.base,I.loc,I.cell,I.free,I.gJ,I.pin,I.aq,I.len⟩
theorem SP.gj {D:Ends}{f:Flow}{s':Shared}(h:SP (X.d9 E) pins D f s'):SP X pins D f s':=by
 cases f with
 |next=>obtain ⟨aA,H',I,q⟩:=h;exact ⟨aA,H',I.gj,q⟩
 |brk=>obtain ⟨aA,H',I,q⟩:=h;exact ⟨aA,H',I.gj,q⟩
 |cont=>obtain ⟨aA,H',I,q⟩:=h;exact ⟨aA,H',I.gj,q⟩
 |ret u=>obtain ⟨v,aA,H',I,r,q⟩:=h;exact ⟨v,aA,H',I.gj,r,q⟩
theorem PE.du {e:Expr}{t:TE}(h:PE X.du e t):PE X e t:=fun pins s σ H Q I hw =>
 ET (h pins s σ H Q (I.d9 _) hw) (fun _ _ ⟨v,H',I',r,q⟩=>⟨v,H',I'.gj,r,q⟩) fun _ _ z=>False.elim z
theorem PT.du {e:Expr}{t:TT}(h:PT X.du e t):PT X e t:=fun pins s σ H Q I hw =>
 ET (h pins s σ H Q (I.d9 _) hw) (fun _ _ ⟨H',I',q⟩=>⟨H',I'.gj,q⟩) fun _ _ z=>False.elim z
theorem df.du {st:List Stmt}{t:TS}(h:df X.du st t):df X st t:=fun pins s σ H D I hw =>
 ET (h pins s σ H D (I.d9 _) hw) (fun _ _ q=>q.gj) fun _ _ z=>False.elim z
end
section
variable {X:Cx}{st:Stmt}{rest:List Stmt}{t u:TS}{e:Expr}{te:TE}{pos:Pos}
def fP:TS:=fun D σ H=>D.nx σ H
def cq (t u:TS):TS:=fun D σ H=>t { D with nx:=u D } σ H
theorem fh:df X [] fP:=fun _ _ σ H _ I h=>abS ⟨σ,H,I,h⟩
theorem bM (h1:PS X st t)(h2:df X rest u):df X (st::rest) (cq t u):=by
 intro pins s σ H D I h
 refine wpAny_execs_cons (aj (h1 pins s σ H { D with nx:=u D } I h) fun f s1 q=>?_)
 cases f with
 |next =>
  obtain ⟨aA,H',I',q⟩:=q
  exact h2 pins s1 aA H' D I' q
 |ret v=>exact q
 |brk=>exact q
 |cont=>exact q
theorem mI (h1:PS X st t):df X [st] t:=by
 intro pins s σ H D I h
 refine wpAny_execs_cons (aj (h1 pins s σ H D I h) fun f s1 q=>?_)
 cases f with
 |next=>exact abS q
 |ret v=>exact q
 |brk=>exact q
 |cont=>exact q
theorem Inv.quiet {pins:List (Addr×Obj)}{σ:St}{H:Hp}{s:Shared}(I:Inv X pins σ H s):interactive X.env=false:=by simp [interactive,I.ok.kind]
def fk (te:TE):TS:=fun D σ H=>te σ H fun _ H1=>D.nx σ H1
theorem eY (he:PE X e te)(hs:swapsWith e none pos.line X.env=pure false:=by rfl):PS X (.Expr e pos) (fk te):=by
 intro pins s σ H D I h
 exact wpAny_Expr_any (aj (he pins s σ H _ I h) fun v s1 ⟨x,H1,I1,r1,q1⟩=>⟨σ,H1,I1,q1⟩) I.quiet hs
def m8 (te:TE):TS:=fun D σ H=>te σ H D.rt
theorem og (he:PE X e te):PS X (.Return (some e) pos) (m8 te):=by
 intro pins s σ H D I h
 exact wpAny_Return_some (aj (he pins s σ H _ I h) fun v s1 ⟨x,H1,I1,r1,q1⟩=>⟨x,σ,H1,I1,r1,q1⟩)
def gN (c:TT)(t u:TS):TS:=fun D σ H=>c σ H fun b H1=>if b=true then t D σ H1 else u D σ H1
theorem i7 {c:Expr}{a b:List Stmt}{tc:TT}(hc:PT X c tc)(ha:df X a t)(hb:df X b u):PS X (.If c a b pos) (gN tc t u):=by
 intro pins s σ H D I h
 refine wpAny_If (aj (hc pins s σ H _ I h) fun d s1 ⟨H1,I1,q1⟩=>?_)
 cases d with
 |true=>exact ha pins s1 σ H1 D I1 q1
 |false=>exact hb pins s1 σ H1 D I1 q1
def iy:TS:=fun _ _ _=>False
theorem iZ {bh:List Stmt}:df X bh iy:=fun _ _ _ _ _ _ h=>h.elim
end
abbrev TG:=V->St->Hp->(St->Hp->Prop)->Prop
abbrev qP:=List V->St->Hp->(St->Hp->Prop)->Prop
def PG (X:Cx)(target:Expr)(t:TG):Prop :=
 ∀ (pins:List (Addr×Obj)) (s:Shared) (σ:St) (H:Hp) (v:V) (u:Value) (Q:St->Hp->Prop),Inv X pins σ H s->RelV v u->t v σ H Q ->
  wpAny (model X.prog X.w) X.A (assign target X.env u) (fun _ s'=>∃ aA H',Inv X pins aA H' s'/\Q aA H') X.xe s
def yx (X:Cx)(ts:List Expr)(t:qP):Prop :=
 ∀ (pins:List (Addr×Obj)) (s:Shared) (σ:St) (H:Hp) (vs:List V) (us:List Value) (Q:St->Hp->Prop),Inv X pins σ H s->Vals vs us->t vs σ H Q ->
  wpAny (model X.prog X.w) X.A (assignInOrder ((assignEach ts X.env).map (·.2)) us) (fun _ s'=>∃ aA H',Inv X pins aA H' s'/\Q aA H') X.xe s
abbrev E9:=V->V->V->Hp->(Hp->Prop)->Prop
def NZ (X:Cx)(t:E9):Prop :=
 ∀ (pins:List (Addr×Obj)) (s:Shared) (σ:St) (H:Hp) (o i v:V) (ov iv u:Value) (Q:Hp->Prop),Inv X pins σ H s->RelV o ov->RelV i iv->RelV v u->t o i v H Q ->
  wpAny (model X.prog X.w) X.A (setItem ov iv u) (fun _ s'=>∃ H',Inv X pins σ H' s'/\Q H') X.xe s
section
variable {X:Cx}{pos:Pos}
def dZ (i:Nat):TG:=fun v σ H Q=>Q (σ.set i (some v)) H
theorem fO {i:Nat}{x:Str}(hN:X.N.Nodup)(hi:X.N[i]?=some x)(hx:Loc X.env.scope x)(hf:X.fn x=true\/X.env.scope.names.lookup x=some .local:=by first | exact .inl rfl | exact .inr rfl | assumption):PG X (.Name x pos) (dZ i):=by
 intro pins s σ H v u Q I r h
 exact acG (wH I hN hi hx r (fun s' I'=>⟨_,H,I',h⟩) hf)
def x8:qP:=fun vs σ H Q=>vs=[]/\Q σ H
def ko (t:TG)(u:qP):qP:=fun vs σ H Q=>∃ v r,vs=v::r/\t v σ H fun aA H'=>u r aA H' Q
theorem wX:yx X [] x8:=by
 intro pins s σ H vs us Q I r h
 obtain ⟨e,h⟩:=h
 subst e
 cases r
 exact assignInOrder_nil ⟨σ,H,I,h⟩
theorem iu {e:Expr}{es:List Expr}{t:TG}{u:qP}(h1:PG X e t)(h2:yx X es u)(hs:(assignEach (e::es) X.env).map (·.2)=assign e X.env::(assignEach es X.env).map (·.2):=by rfl):yx X (e::es) (ko t u):=by
 intro pins s σ H vs us Q I r h
 obtain ⟨v,vr,e1,h⟩:=h
 subst e1
 cases r with
 |cons r rr =>
  rw [hs]
  refine assignInOrder_cons (aj (h1 pins s σ H _ _ _ I r h) fun _ s1 ⟨ak,H1,I1,q1⟩=>?_)
  exact h2 pins s1 ak H1 _ _ Q I1 rr q1
def yb (K:Frag)(n:Nat)(t:qP):TG:=fun v σ H Q=>∃ a xs,v=.ref a/\eM K H a xs/\xs.length=n/\t xs σ H Q
theorem xx {es:List Expr}{k:Nat}{t:qP}{n:Nat}(hc:X.calm=true)(h:yx X es t)(hn:(assignEach es X.env).length=n:=by rfl)(dQ:(assignEach es X.env).findIdx? (·.1)=none:=by rfl):PG X (.Tuple es k pos) (yb X.K n t):=by
 intro pins s σ H v u Q I r hw
 obtain ⟨a,xs,e1,hq,hl,hw⟩:=hw
 subst e1
 cases r
 obtain ⟨its,rv,ht,hz⟩:=I.tuple hq
 refine assign_Tuple_tuple (I.ok.hd hc) ht (by simp [hn,<- hl,rv.length]) dQ fun h' hx=>?_
 have I1:Inv X pins σ H { s with heap:=h' }:=I.kept (t':=s.toks) fun b o e=>hx b o (xp (lp e)) e
 exact h pins _ σ H xs _ Q I1 (by simpa using rv) hw
def yd (to ti:TE)(t:E9):TG:=fun v σ H Q=>to σ H fun o H1=>ti σ H1 fun i H2=>t o i v H2 fun H3=>Q σ H3
theorem D2 {o i:Expr}{to ti:TE}{t:E9}(ho:PE X o to)(hi:PE X i ti)(hs:NZ X t)(ha:∀ v,assign (.Subscript o i pos) X.env v=(do
   let ov <- holding [v] (eval o X.env)
   let iv <- holding [v,ov] (eval i X.env)
   standAt pos
   holding [v,ov,iv] (setItem ov iv v)
   release [v,ov,iv] []):=by intro _;rfl):PG X (.Subscript o i pos) (yd to ti t):=by
 intro pins s σ H v u Q I r h
 rw [ha]
 refine ba (LB (aj (ho pins s σ H _ I h) fun ov s1 ⟨x,H1,I1,r1,q1⟩=>?_))
 refine ba (LB (aj (hi pins s1 σ H1 _ I1 q1) fun iv s2 ⟨y,H2,I2,r2,q2⟩=>?_))
 refine ba (YO (ba (LB (aj (hs pins s2 σ H2 x y v ov iv u _ I2 r1 r2 r q2) fun _ s3 ⟨H3,I3,q3⟩=>?_))))
 exact wpAny_release ⟨σ,H3,I3,q3⟩
def hU (te:TE)(g:TG):TS:=fun D σ H=>te σ H fun x H1=>g x σ H1 D.nx
theorem sF {tg e:Expr}{te:TE}{g:TG}(he:PE X e te)(hg:PG X tg g)(hs:swapsWithSole [tg] e pos.line X.env=pure false:=by rfl)(hw:swappedStores [tg] e X.env=pure none:=by rfl)(h1:(assignEach [tg] X.env).map (·.2)=[assign tg X.env]:=by rfl):PS X (.Assign [tg] e pos) (hU te g):=by
 intro pins s σ H D I h
 refine wpAny_Assign_stores (aj (he pins s σ H _ I h) fun v s1 ⟨x,H1,I1,r1,q1⟩=>?_) hs hw
 rw [h1]
 exact aj (hg pins s1 σ H1 x v _ I1 r1 q1) fun _ s2 q=>q
theorem lD {i:Nat}{x:Str}{e:Expr}{te:TE}{pos':Pos}(hN:X.N.Nodup)(hi:X.N[i]?=some x)(hx:Loc X.env.scope x)(he:PE X e te)(hs:swapsWith e (some (.Name x pos')) pos.line X.env=pure false:=by rfl)(hf:X.fn x=true\/X.env.scope.names.lookup x=some .local:=by first | exact .inl rfl | exact .inr rfl | assumption) :
  PS X (.Assign [.Name x pos'] e pos) (hU te (dZ i)):=by
 intro pins s σ H D I h
 refine wpAny_Assign_Name (aj (he pins s σ H _ I h) fun v s1 ⟨y,H1,I1,r1,q1⟩=>?_) hs
 exact wH I1 hN hi hx r1 (fun s2 I2=>⟨_,H1,I2,q1⟩) hf
end
structure It where
 go:Nat->Hp->Prop
 tN:Nat->Hp->V->Hp->Prop
 stop:Nat->Hp->Prop
def eW (X:Cx)(pins:List (Addr×Obj))(H:Hp)(b:Addr):Prop :=
 H b=none/\b ≠ X.env.locals/\b ∉ X.fs/\(b ∈ X.ex\/X.bW.heap.objs.size<=b)/\(∀ x c,X.env.cells.lookup x=some c->c ≠ b)/\∀ p ∈ X.pn++pins,p.1 ≠ b
theorem Inv.oE {X:Cx}{pins:List (Addr×Obj)}{σ:St}{H H':Hp}{s:Shared}{b:Addr}(I:Inv X pins σ H s)(hb:s.heap.objs.size<=b)(hn:H' b=none):eW X pins H' b:=by
 refine ⟨hn,Nl (rb I.lt hb),I.Yt hb,.inr (EM I.sz hb),fun x c e z=>?_,fun p hp z=>?_⟩
 ·obtain ⟨v,q⟩:=I.cell x c e
  exact absurd (rb q.lt (by rw [z];exact hb)) (LM _)
 ·exact absurd (rb (lp (I.pin p hp).1) (by rw [z];exact hb)) (LM _)
structure Turn (P:Program) (w:World) (K:Frag) (tg:Expr) (J:It) (fp:List Addr) (it:Addr) (tn:Nat->Heap->Prop):Prop where
 mem:it ∈ fp
 obj:∀ i h,tn i h->∀ b ∈ fp,∃ o,h.get? b=some o/\∀ v,o.data ≠ .cell v
 keep:∀ i h h',tn i h->(∀ b ∈ fp,∀ o,h.get? b=some o->h'.get? b=some o)->tn i h'
 item:∀ (X:Cx),X.prog=P->X.w=w->X.K=K->X.calm=true->∀ (i:Nat) (pins:List (Addr×Obj)) (s:Shared) (σ:St) (H:Hp) (E:Value->Shared->Prop),Inv X pins σ H s->(∀ b ∈ fp,eW X pins H b)->tn i s.heap->J.go i H ->
  wpAny (model P w) X.A (pyNext (.ref it)) (fun r s1=>∃ u,r=some u /\
   wpAny (model P w) X.A (letOwnedTupleGo tg (.ref it) u) (fun _ s2=>∃ x H',Inv X pins σ H' s2/\RelV x u/\J.tN i H x H'/\tn (i+1) s2.heap/\∀ b ∈ fp,H' b=none) E s1) E s
 done:∀ (X:Cx),X.prog=P->X.w=w->X.K=K->X.calm=true->∀ (i:Nat) (pins:List (Addr×Obj)) (s:Shared) (σ:St) (H:Hp) (E:Value->Shared->Prop),Inv X pins σ H s->(∀ b ∈ fp,eW X pins H b)->tn i s.heap->J.stop i H ->
  wpAny (model P w) X.A (pyNext (.ref it)) (fun r s1=>r=none/\Inv X pins σ H s1) E s
 self:∀ (A:Around) (i:Nat) (s:Shared) (Q:Value->Shared->Prop) (E:Value->Shared->Prop),tn i s.heap->Q (.ref it) s->wpAny (model P w) A (pyIter (.ref it)) Q E s
abbrev TI:=St->Hp->(It->Hp->Prop)->Prop
def PU (X:Cx)(pins:List (Addr×Obj))(σ:St)(tg:Expr)(R:It->Hp->Prop)(oU:Value)(s2:Shared):Prop :=
 ∃ (it:Addr) (fp:List Addr) (tn:Nat->Heap->Prop) (J:It) (H':Hp),oU=.ref it/\Inv X pins σ H' s2/\Turn X.prog X.w X.K tg J fp it tn/\tn 0 s2.heap/\(∀ b ∈ fp,eW X pins H' b)/\R J H'
def PI (X:Cx)(tg iter:Expr)(wi:TI):Prop :=
 ∀ (pins:List (Addr×Obj)) (s:Shared) (σ:St) (H:Hp) (R:It->Hp->Prop),Inv X pins σ H s->wi σ H R ->
  wpAny (model X.prog X.w) X.A (eval iter X.env) (fun v s1=>wpAny (model X.prog X.w) X.A (pyIter v) (PU X pins σ tg R) X.xe s1) X.xe s
theorem vm {M:Model}{A:Around}{E:Value->Shared->Prop}{s:Shared}{tg:Expr}{it:Addr}{u:Value}{o:Obj}{n:String}{vs:Array Value}{Q:Unit->Shared->Prop}(ho:s.heap.get? it=some o)(hc:o.cls=.type n)(hd:o.data=.fields vs)(hn:["enumerate", "zip", "dict_itemiterator", "dict_reverseitemiterator", "odict_iterator", "itertools.zip_longest", "itertools.pairwise"].contains n=false)(hQ:Q () s):wpAny M A (letOwnedTupleGo tg (.ref it) u) Q E s:=by
 unfold letOwnedTupleGo
 cases tg<;>first
  |exact wb hQ
  |(cases u<;>first
    |exact wb hQ
    |(refine ba (wpAny_load ho ?_)
      rw [hc,hd]
      show wpAny M A (if (["enumerate", "zip", "dict_itemiterator", "dict_reverseitemiterator", "odict_iterator", "itertools.zip_longest", "itertools.pairwise"].contains n&&vs[0]?==some (rawInt _))=true then _ else _) Q E s
      rw [AM (by intro h;rw [hn,Bool.false_and] at h;cases h)]
      exact wb hQ))
def PV (K:Frag)(a:Addr):It :=
 ⟨fun i H=>∃ xs x,aF K H a xs/\xs[i]?=some x,fun i H x H'=>H'=H/\∀ xs,aF K H a xs->xs[i]?=some x,fun i H=>∃ xs,aF K H a xs/\xs.length<=i⟩
def qQ (lo:Int)(n:Nat):It:=⟨fun i _=>i<n,fun i H x H'=>H'=H/\x=.int (lo+i),fun i _=>n<=i⟩
theorem T4 {P:Program}{w:World}{K:Frag}{tg:Expr}(a it:Addr):Turn P w K tg (PV K a) [it] it (fun i h=>h.IsListIter it a i) where
 mem:=by simp
 obj:=fun i h st b hb=>by
  have e:b=it:=by simpa using hb
  subst e
  obtain ⟨o,e,c,d⟩:=st
  exact ⟨o,e,fun v z=>by rw [d] at z;cases z⟩
 keep:=fun i h h' st k=>st.at fun o e=>k it (by simp) o e
 item:=by
  intro X hP hw hK hc i pins s σ H E I hf st hg
  subst hP hw hK
  obtain ⟨xs,x,hq,hx⟩:=hg
  obtain ⟨its,rv,p,hz⟩:=I.list hq
  obtain ⟨u,hu,ru⟩:=rv.get hx
  obtain ⟨f0,f1,f2,f3,f4,f5⟩:=hf it (by simp)
  refine wpAny_pyNext_list_item st p.isList (x:=u) (by simpa using hu) fun h' jm sb=>?_
  have I1:Inv X pins σ H { s with heap:=h' }:=I.turned (t':=s.toks) (fun b o hb e=>(sb.2 b hb).trans e) f0 f1 f3 f4 f5
  obtain ⟨o,e,c,d⟩:=id jm
  exact ⟨u,rfl,vm (s:={ s with heap:=h' }) e c d (by decide) ⟨x,H,I1,ru,⟨rfl,fun ys hy=>by rw [I.Kj hy hq];exact hx⟩,jm,fun b hb=>(hf b hb).1⟩⟩
 done:=by
  intro X hP hw hK hc i pins s σ H E I hf st hg
  subst hP hw hK
  obtain ⟨xs,hq,hx⟩:=hg
  obtain ⟨its,rv,p,hz⟩:=I.list hq
  obtain ⟨f0,f1,f2,f3,f4,f5⟩:=hf it (by simp)
  have hl:=rv.length
  exact wpAny_pyNext_list_end (I.ok.hd hc) st p.isList (by simp;omega) fun h' eb=>⟨rfl,I.turned (t':=s.toks) (fun b o hb e=>eb b o hb e) f0 f1 f3 f4 f5⟩
 self:=fun _ _ _ _ _ st h=>wpAny_pyIter_listiter st h
theorem Tg {P:Program}{w:World}{K:Frag}{tg:Expr}(it:Addr)(lo:Int)(n:Nat):Turn P w K tg (qQ lo n) [it] it (fun i h=>IsRangeIter h it (lo+(i:Nat)*1) ((n:Int)-(i:Nat)) 1) where
 mem:=by simp
 obj:=fun i h st b hb=>by
  have e:b=it:=by simpa using hb
  subst e
  exact ⟨_,st,fun v z=>by
   have z':Data.fields _=Data.cell v:=z
   cases z'⟩
 keep:=fun i h h' st k=>k it (by simp) _ st
 item:=by
  intro X hP hw hK hc i pins s σ H E I hf st hg
  subst hP hw hK
  obtain ⟨f0,f1,f2,f3,f4,f5⟩:=hf it (by simp)
  have W:=Walks.range (prog:=X.prog) (w:=X.w) (I.ok.hd hc) it lo 1 n
  refine W.item i s _ _ hg st fun v h' tk hv jm kk=>?_
  obtain ⟨t,rfl⟩:=hv
  have I1:Inv X pins σ H { s with heap:=h',toks:=tk }:=I.turned (fun b o hb e=>kk b o (by simpa using hb) e) f0 f1 f3 f4 f5
  refine ⟨_,rfl,vm (s:={ s with heap:=h',toks:=tk }) (n := "range_iterator") jm rfl rfl (by decide) ⟨.int (lo+i),H,I1,⟨t,?_⟩,⟨rfl,rfl⟩,jm,fun b hb=>(hf b hb).1⟩⟩
  rw [Int.mul_one]
 done:=by
  intro X hP hw hK hc i pins s σ H E I hf st hg
  subst hP hw hK
  obtain ⟨f0,f1,f2,f3,f4,f5⟩:=hf it (by simp)
  exact wpAny_pyNext_range_end (I.ok.hd hc) st (by have:n<=i:=hg;omega) fun h' eb=>⟨rfl,I.turned (t':=s.toks) (fun b o hb e=>eb b o hb e) f0 f1 f3 f4 f5⟩
 self:=fun _ _ _ _ _ st h=>wpAny_pyIter_rangeiter st h
section
variable {X:Cx}{tg:Expr}
def M5 (K:Frag)(tl:TE):TI:=fun σ H R=>tl σ H fun x H1=>∃ a,x=.ref a/\(∃ xs,aF K H1 a xs)/\R (PV K a) H1
theorem VG {l:Expr}{tl:TE}(hl:PE X l tl):PI X tg l (M5 X.K tl):=by
 intro pins s σ H R I h
 refine aj (hl pins s σ H _ I h) fun v s1 ⟨x,H1,I1,r1,q1⟩=>?_
 obtain ⟨a,e,⟨xs,hq⟩,q⟩:=q1
 subst e
 cases r1
 obtain ⟨its,rv,p,hz⟩:=I1.list hq
 refine ab6 p.isList ?_
 refine ⟨s1.heap.objs.size,[s1.heap.objs.size],_,_,H1,rfl,I1.kept (t':=s1.toks) fun b o e=>gc _ e,T4 a _,⟨_,ze _ rfl,rfl,rfl⟩,fun b hb=>?_,q⟩
 have e:b=s1.heap.objs.size:=by simpa using hb
 subst e
 exact I1.oE (ee _) (I1.aq.fresh (ee _))
theorem UQ {pins:List (Addr×Obj)}{σ:St}{H:Hp}{s:Shared}{R:It->Hp->Prop}{E:Value->Shared->Prop}{lo hi:Int}{t u v:Tok}{tk:Nat}(I:Inv X pins σ H s)(h1 : -(2 ^ 62)<=lo)(h2:lo<2 ^ 62)(h3 : -(2 ^ 62)<=hi)(h4:hi<2 ^ 62)(q:R (qQ lo (hi-lo).toNat) H):wpAny (model X.prog X.w) X.A (pyIter (.ref s.heap.objs.size)) (PU X pins σ tg R) E { s with heap:=s.heap.push { cls:=.type "range",data:=.fields #[.int lo t,.int hi u,.int 1 v] },toks:=tk }:=by
 refine wpAny_pyIter_range (IsRange.new ..) (small_one h1 h2 h3 h4) ?_
 have I1:Inv X pins σ H { s with heap:=s.heap.push { cls:=.type "range",data:=.fields #[.int lo t,.int hi u,.int 1 v] },toks:=tk }:=I.kept fun b o e=>gc _ e
 refine ⟨(s.heap.push { cls:=.type "range",data:=.fields #[.int lo t,.int hi u,.int 1 v] }).objs.size,[(s.heap.push { cls:=.type "range",data:=.fields #[.int lo t,.int hi u,.int 1 v] }).objs.size],_,_,H,rfl,
  I1.kept (t':=tk) fun b o e=>gc _ e,Tg _ lo (hi-lo).toNat,?_,fun b hb=>?_,q⟩
 ·have e1:lo+((0:Nat):Int)*1=lo:=by simp
  have e2:(((hi-lo).toNat:Nat):Int)-((0:Nat):Int)=Builtin.Range.rangeSize lo hi 1:=by rw [rangeSize_one];split<;>omega
  show IsRangeIter _ _ (lo+((0:Nat):Int)*1) ((((hi-lo).toNat:Nat):Int)-((0:Nat):Int)) 1
  rw [e1,e2]
  exact ze _ rfl
 ·have e:b=(s.heap.push { cls:=.type "range",data:=.fields #[.int lo t,.int hi u,.int 1 v] }).objs.size:=by simpa using hb
  subst e
  exact I1.oE (ee _) (I1.aq.fresh (ee _))
def xK (ta:TA):TI:=fun σ H R=>ta σ H fun vs H1=>∃ j:Int,vs=[.int j] /\ -(2 ^ 62)<=j/\j<2 ^ 62/\R (qQ 0 j.toNat) H1
theorem JO {a:Expr}{ta:TA}{p pos:Pos}(hg:Gl X "range")(hm:X.mg "range" = none)(ha:PA X [a] ta)(hs:starEach [a] X.env=[(false,eval a X.env)]:=by rfl):PI X tg (.Call (.Name "range" p) [a] [] pos) (xK ta):=by
 intro pins s σ H R I h
 refine Call_ (n8 I hg hm boot_range (Me (aj (ha pos pins s σ H _ I h) fun us s1 ⟨vs,H1,I1,r1,q1⟩=>?_) hs rfl))
 obtain ⟨j,e,q1,q2,q⟩:=q1
 subst e
 cases r1 with
 |cons r rr =>
  cases rr
  obtain ⟨t,rfl⟩:=r
  exact call_range_1 (UQ I1 (by omega) (by omega) q1 q2 (by simpa using q))
def vz (wi:TI)(g:TG)(tb:TS):TS:=fun D σ H=>wi σ H fun J H1=>∃ W:Nat->Nat->St->Hp->Prop,(∃ m,W 0 m σ H1)/\∀ i m σ H,W i m σ H ->
 (J.stop i H/\D.nx σ H)\/(J.go i H/\∃ N:St->Hp->Prop,(∀ aA H',N aA H'->∃ m',m'<m/\W (i+1) m' aA H')/\∀ x H',J.tN i H x H'->g x σ H' fun bB H2=>tb { D with nx:=N,ct:=N,bk:=D.nx } bB H2)
def oh (fp:List Addr)(h:Heap):List (Addr×Obj):=fp.filterMap fun b=>(h.get? b).map fun o=>(b,o)
theorem lh {fp:List Addr}{h:Heap}{b:Addr}{o:Obj}(hb:b ∈ fp)(e:h.get? b=some o):(b,o) ∈ oh fp h:=ID.mpr ⟨b,hb,by rw [e];rfl⟩
theorem T5 {fp:List Addr}{h:Heap}{p:Addr×Obj}(hp:p ∈ oh fp h):p.1 ∈ fp/\h.get? p.1=some p.2:=by
 obtain ⟨b,hb,e⟩:=ID.mp hp
 cases q:h.get? b with
 |none=>rw [q] at e;cases e
 |some o =>
  rw [q] at e
  have e':(b,o)=p:=AE e
  subst e'
  exact ⟨hb,q⟩
theorem Inv.pinned {pins:List (Addr×Obj)}{σ:St}{H:Hp}{s:Shared}{fp:List Addr}(I:Inv X pins σ H s)(hf:∀ b ∈ fp,eW X pins H b)(ho:∀ b ∈ fp,∃ o,s.heap.get? b=some o/\∀ v,o.data ≠ .cell v):Inv X (pins++oh fp s.heap) σ H s :=
 I.Le fun p hp=>(ij.mp hp).elim (fun z=>I.pin p (ff _ z)) fun z=>by
  obtain ⟨hb,e⟩:=T5 z
  obtain ⟨f0,f1,f2,_⟩:=hf p.1 hb
  obtain ⟨o,e',d⟩:=ho p.1 hb
  rw [e] at e';cases e'
  exact ⟨e,f0,f1,f2,d⟩
theorem Inv.pO {pins pl:List (Addr×Obj)}{σ:St}{H:Hp}{s:Shared}(I:Inv X (pins++pl) σ H s):Inv X pins σ H s:=I.Le fun p hp=>I.pin p (ff _ (rf _ hp))
theorem D3 {iter:Expr}{body:List Stmt}{wi:TI}{g:TG}{tb:TS}{pos:Pos}(hp:PassesOwn (model X.prog X.w) X.A X.env X.xe)(hc:X.calm=true)(hi:PI X tg iter wi)(hg:PG X tg g)(hb:df X body tb)(hs:∀ x,foldedSetIterable iter X.env x=pure x:=by intro _;rfl):PS X (.For tg iter body [] pos) (vz wi g tb):=by
 intro pins s σ H D I h
 refine wpAny_For (aj (hi pins s σ H _ I h) fun v s1 h1=>aj h1 fun oU s2 h2=>?_) hs
 obtain ⟨it,fp,tn,J,H2,e,I2,T,bO,f2,W,⟨m0,w0⟩,turn⟩:=h2
 subst e
 have stat:∀ {H':Hp},(∀ b ∈ fp,H' b=none)->∀ b ∈ fp,eW X pins H' b:=fun hn b hb=>⟨hn b hb,(f2 b hb).2⟩
 refine codeAny_forLoop_any (fun n s'=>∃ i aA H',Inv X pins aA H' s'/\tn i s'.heap/\(∀ b ∈ fp,H' b=none)/\W i n aA H') ?_ m0 ⟨0,σ,H2,I2,bO,fun b hb=>(f2 b hb).1,w0⟩
 rintro n s3 ⟨i,vP,H3,I3,fE,PX,w3⟩
 rcases turn i n vP H3 w3 with ⟨stop,qn⟩ | ⟨go,N,hN,step⟩
 ·refine abT hp (aj (T.done X rfl rfl rfl hc i pins s3 vP H3 X.xe I3 (stat PX) fE stop) fun r s4 ⟨hr,I4⟩=>?_)
  subst hr
  exact abS ⟨vP,H3,I4,qn⟩
 ·refine abT hp (aj (T.item X rfl rfl rfl hc i pins s3 vP H3 X.xe I3 (stat PX) fE go) fun r s4 ⟨u,hr,h4⟩=>?_)
  subst hr
  refine abT hp (aj h4 fun _ s5 ⟨x,H5,I5,r5,y5,cL,jo⟩=>?_)
  have I5':=I5.pinned (stat jo) (T.obj _ _ cL)
  refine abT hp (aj (hg _ s5 vP H5 x u _ I5' r5 (step x H5 y5)) fun _ s6 ⟨σ6,H6,I6,q6⟩=>?_)
  refine abT hp (aj (hb _ s6 σ6 H6 _ I6 q6) fun f s7 q7=>?_)
  have again:∀ {kF:St} {H7:Hp},Inv X (pins++oh fp s5.heap) kF H7 s7->N kF H7->∃ m,m<n/\∃ i aA H',Inv X pins aA H' s7/\tn i s7.heap/\(∀ b ∈ fp,H' b=none)/\W i m aA H':=fun {kF H7} I7 n7=>by
   obtain ⟨m',hm,w7⟩:=hN kF H7 n7
   refine ⟨m',hm,i+1,kF,H7,I7.pO,T.keep _ _ _ cL fun b hb o e=>(I7.pin (b,o) (ff _ (ff _ (lh hb e)))).1,fun b hb=>?_,w7⟩
   obtain ⟨o,e,d⟩:=T.obj _ _ cL b hb
   exact (I7.pin (b,o) (ff _ (ff _ (lh hb e)))).2.1
  cases f with
  |next=>obtain ⟨kF,H7,I7,n7⟩:=q7;exact again I7 n7
  |cont=>obtain ⟨kF,H7,I7,n7⟩:=q7;exact again I7 n7
  |brk=>obtain ⟨kF,H7,I7,q7⟩:=q7;exact ⟨kF,H7,I7.pO,q7⟩
  |ret v=>obtain ⟨x7,kF,H7,I7,r7,q7⟩:=q7;exact ⟨x7,kF,H7,I7.pO,r7,q7⟩
end
theorem T6 {lo:Int}{n:Nat}{g:TG}{tb:TS}{D:Ends}{σ:St}{H:Hp}(Pv:Nat->St->Hp->Prop)(h0:Pv 0 σ H)(hs:∀ i σ H,i<n->Pv i σ H->g (.int (lo+i)) σ H fun bB H2=>tb { D with nx:=Pv (i+1),ct:=Pv (i+1),bk:=D.nx } bB H2)(hd:∀ σ H,Pv n σ H->D.nx σ H) :
  ∃ W:Nat->Nat->St->Hp->Prop,(∃ m,W 0 m σ H)/\∀ i m σ H,W i m σ H ->
   ((qQ lo n).stop i H/\D.nx σ H)\/((qQ lo n).go i H/\∃ N:St->Hp->Prop,(∀ aA H',N aA H'->∃ m',m'<m/\W (i+1) m' aA H')/\∀ x H',(qQ lo n).tN i H x H'->g x σ H' fun bB H2=>tb { D with nx:=N,ct:=N,bk:=D.nx } bB H2):=by
 refine ⟨fun i m σ H=>m=n-i/\i<=n/\Pv i σ H,⟨n,by simp,Cs _,h0⟩,?_⟩
 rintro i m σ H ⟨rfl,hi,p⟩
 by_cases dR:i<n
 ·refine .inr ⟨dR,Pv (i+1),fun aA H' p'=>⟨n-(i+1),by omega,rfl,dR,p'⟩,fun x H' y=>?_⟩
  obtain ⟨e,y⟩:=y
  subst e y
  exact hs i σ _ dR p
 ·have e:i=n:=by omega
  subst e
  exact .inl ⟨ee _,hd σ H p⟩
abbrev R2:=V->V->Hp->VK->Prop
def dv (X:Cx)(f:Value->Value->Sem Value)(r:R2):Prop :=
 ∀ (pins:List (Addr×Obj)) (s:Shared) (σ:St) (H:Hp) (x y:V) (v u:Value) (Q:VK),Inv X pins σ H s->RelV x v->RelV y u->r x y H Q ->
  wpAny (model X.prog X.w) X.A (f v u) (EP X pins σ Q) X.xe s
def fm (X:Cx)(f:Value)(r:List V->Hp->VK->Prop):Prop :=
 ∀ (pins:List (Addr×Obj)) (s:Shared) (σ:St) (H:Hp) (xs:List V) (us:List Value) (Q:VK),Inv X pins σ H s->Vals xs us->r xs H Q ->
  wpAny (model X.prog X.w) X.A (call f us) (EP X pins σ Q) X.xe s
def iX (r:R2)(ta tb:TE):TE:=fun σ H Q=>ta σ H fun x H1=>tb σ H1 fun y H2=>r x y H2 Q
def rI (C:Int->Int->Prop)(g:Int->Int->V):R2:=fun x y H Q=>∃ i j,x=.int i/\y=.int j/\C i j/\Q (g i j) H
def oV (g:Int->Int->V):R2:=fun x y H Q=>∃ i j,x=.int i/\y=.int j/\Q (g i j) H
section
variable {X:Cx}{a b c:Expr}{ta tb tc:TE}{pos:Pos}
theorem Fb (ha:PE X a ta)(hb:PE X b tb){pins:List (Addr×Obj)}{s:Shared}{σ:St}{H:Hp}{R:V->V->Hp->Prop}(I:Inv X pins σ H s)(h:ta σ H fun x H1=>tb σ H1 fun y H2=>R x y H2){Q:Value->Shared->Prop}{f:Value->Value->Sem Value}(hf:∀ v u s2 x y H2,Inv X pins σ H2 s2->RelV x v->RelV y u->R x y H2->wpAny (model X.prog X.w) X.A (f v u) Q X.xe s2) :
  wpAny (model X.prog X.w) X.A (eval a X.env) (fun v bf=>wpAny (model X.prog X.w) X.A (eval b X.env) (fun u je=>wpAny (model X.prog X.w) X.A (f v u) Q X.xe je) X.xe bf) X.xe s:=by
 refine aj (ha pins s σ H _ I h) fun v s1 ⟨x,H1,I1,r1,q1⟩=>?_
 refine aj (hb pins s1 σ H1 _ I1 q1) fun u s2 ⟨y,H2,I2,r2,q2⟩=>?_
 exact hf v u s2 x y H2 I2 r1 r2 q2
theorem xM {op:Operator}{r:R2}(ho:dv X (binaryOp op) r)(ha:PE X a ta)(hb:PE X b tb):PE X (.BinOp a op b pos) (iX r ta tb):=by
 intro pins s σ H Q I h
 exact wpAny_BinOp (Fb ha hb I h fun v u s2 x y H2 I2 rx ry q=>ho pins s2 σ H2 x y v u Q I2 rx ry q)
theorem yy {f:Value->Value->Sem Value}{C:Int->Int->Prop}{g:Int->Int->Int}(rule:∀ (i j:Int) (t u:Tok) (s:Shared) (Q:Value->Shared->Prop) (E:Value->Shared->Prop),C i j->Q (.int (g i j) s.toks) { s with toks:=s.toks+1 }->wpAny (model X.prog X.w) X.A (f (.int i t) (.int j u)) Q E s) :
  dv X f (rI C fun i j=>.int (g i j)):=by
 intro pins s σ H x y v u Q I rx ry h
 obtain ⟨i,j,rfl,rfl,hc,q⟩:=h
 obtain ⟨t,rfl⟩:=rx
 obtain ⟨t',rfl⟩:=ry
 exact rule i j t t' s _ _ hc ⟨.int (g i j),H,I.tok _,⟨_,rfl⟩,q⟩
theorem N0 {f:Value->Value->Sem Value}{g:Int->Int->Int}(rule:∀ (i j:Int) (t u:Tok) (s:Shared) (Q:Value->Shared->Prop) (E:Value->Shared->Prop),Q (.int (g i j) s.toks) { s with toks:=s.toks+1 }->wpAny (model X.prog X.w) X.A (f (.int i t) (.int j u)) Q E s) :
  dv X f (oV fun i j=>.int (g i j)):=by
 intro pins s σ H x y v u Q I rx ry h
 obtain ⟨i,j,rfl,rfl,q⟩:=h
 obtain ⟨t,rfl⟩:=rx
 obtain ⟨t',rfl⟩:=ry
 exact rule i j t t' s _ _ ⟨.int (g i j),H,I.tok _,⟨_,rfl⟩,q⟩
theorem ye {f:Value->Value->Sem Value}{g:Int->Int->Bool}(rule:∀ (i j:Int) (t u:Tok) (s:Shared) (Q:Value->Shared->Prop) (E:Value->Shared->Prop),Q (.bool (g i j)) s->wpAny (model X.prog X.w) X.A (f (.int i t) (.int j u)) Q E s) :
  dv X f (oV fun i j=>.bl (g i j)):=by
 intro pins s σ H x y v u Q I rx ry h
 obtain ⟨i,j,rfl,rfl,q⟩:=h
 obtain ⟨t,rfl⟩:=rx
 obtain ⟨t',rfl⟩:=ry
 exact rule i j t t' s _ _ ⟨.bl (g i j),H,I,rfl,q⟩
def N3 (i j:Int):Prop:=0<=j/\j<=1000000/\i.natAbs<2 ^ 64
theorem WH:dv X (binaryOp .Add) (oV fun i j=>.int (i+j)):=N0 fun _ _ _ _ _ _ _ q=>add_int q
theorem WK:dv X (binaryOp .Sub) (oV fun i j=>.int (i-j)):=N0 fun _ _ _ _ _ _ _ q=>sub_int q
theorem WL:dv X (binaryOp .Mod) (rI (fun _ j=>0<j) fun i j=>.int (i % j)):=yy fun i j _ _ _ _ _ hc q=>by
 have h1:(0:Int)<j:=hc
 exact mod_int' (by omega) (by rw [Int.fmod_eq_emod_of_nonneg i (by omega)];exact q)
theorem WM:dv X (binaryOp .Pow) (rI N3 fun i j=>.int (i ^ j.toNat)):=yy fun _ _ _ _ _ _ _ hc q=>pow_int_small hc.1 hc.2.1 hc.2.2 q
end
def sY:V->V->Bool
 | .aN,.aN=>true | .aN,.int _=>true | .int _,.aN=>true | .aN,.bl _=>true | .bl _,.aN=>true | .aN,.str _=>true | .str _,.aN=>true
 | .int _,.int _=>true | .bl _,.bl _=>true | .str _,.str _=>true | .jk _,.jk _=>true
 | .int _,.str _=>true | .str _,.int _=>true | .bl _,.str _=>true | .str _,.bl _=>true
 |_,_=>false
def rEq:R2:=fun x y H Q=>sY x y=true/\Q (.bl (decide (x=y))) H
def rNe:R2:=fun x y H Q=>sY x y=true/\Q (.bl (!decide (x=y))) H
theorem Lg {i j:Int}:decide (V.int i=V.int j)=(i==j):=by
 rw [abU]
 simp
theorem Mm {i j:Bool}:decide (V.bl i=V.bl j)=(i==j):=by
 rw [abU]
 simp
theorem Lh {i j:Str}:decide (V.str i=V.str j)=(i==j):=by
 rw [abU]
 simp
theorem Li {i j:Array UInt8}:decide (V.jk i=V.jk j)=(i.toList==j.toList):=by
 rw [abU]
 cases i
 cases j
 simp
section
variable {X:Cx}{a b c:Expr}{ta tb tc:TE}{pos:Pos}
theorem cX {pins:List (Addr×Obj)}{σ:St}{H:Hp}{s:Shared}{Q:VK}{k k':Bool}(I:Inv X pins σ H s)(q:Q (.bl k) H)(e:k=k'):EP X pins σ Q (.bool k') s:=by
 subst e
 exact ⟨.bl k,H,I,rfl,q⟩
theorem Eu:dv X (compareOp .Eq) rEq:=by
 intro pins s σ H x y v u Q I rx ry h
 obtain ⟨hs,q⟩:=h
 cases x with
 |aN =>
  cases rx
  cases y with
  |aN=>cases ry;exact PySem.EqNone.eq_none_none (cX I q (by simp))
  |bl j=>cases ry;exact PySem.EqNone.eq_none_bool (cX I q (by simp))
  |int j=>obtain ⟨t',rfl⟩:=ry;exact PySem.EqNone.eq_none_int (cX I q (by simp))
  |str j=>obtain ⟨t',rfl⟩:=ry;exact PySem.EqNone.eq_none_str (cX I q (by simp))
  |_=>exact absurd (show false=true from hs) AS
 |bl i =>
  cases rx
  cases y with
  |aN=>cases ry;exact PySem.EqNone.eq_bool_none (cX I q (by simp))
  |bl j=>cases ry;exact eq_bool (cX I q Mm)
  |str j=>obtain ⟨t',rfl⟩:=ry;exact PySem.EqMixed.eq_bool_str (cX I q (by simp))
  |_=>exact absurd (show false=true from hs) AS
 |int i =>
  obtain ⟨t,rfl⟩:=rx
  cases y with
  |aN=>cases ry;exact PySem.EqNone.eq_int_none (cX I q (by simp))
  |int j=>obtain ⟨t',rfl⟩:=ry;exact eq_int (cX I q Lg)
  |str j=>obtain ⟨t',rfl⟩:=ry;exact PySem.EqMixed.eq_int_str (cX I q (by simp))
  |_=>exact absurd (show false=true from hs) AS
 |str i =>
  obtain ⟨t,rfl⟩:=rx
  cases y with
  |aN=>cases ry;exact PySem.EqNone.eq_str_none (cX I q (by simp))
  |bl j=>cases ry;exact PySem.EqMixed.eq_str_bool (cX I q (by simp))
  |int j=>obtain ⟨t',rfl⟩:=ry;exact PySem.EqMixed.eq_str_int (cX I q (by simp))
  |str j=>obtain ⟨t',rfl⟩:=ry;exact eq_str (cX I q Lh)
  |_=>exact absurd (show false=true from hs) AS
 |jk i =>
  obtain ⟨t,rfl⟩:=rx
  cases y with
  |jk j=>obtain ⟨t',rfl⟩:=ry;exact PySem.W.eq_bytes (cX I q Li)
  |_=>exact absurd (show false=true from hs) AS
 |_=>cases y<;>exact absurd (show false=true from hs) AS
theorem Ex:dv X (compareOp .NotEq) rNe:=by
 intro pins s σ H x y v u Q I rx ry h
 obtain ⟨hs,q⟩:=h
 cases x with
 |aN =>
  cases rx
  cases y with
  |aN=>cases ry;exact PySem.EqNone.ne_none_none (cX I q (by simp))
  |bl j=>cases ry;exact PySem.EqNone.ne_none_bool (cX I q (by simp))
  |int j=>obtain ⟨t',rfl⟩:=ry;exact PySem.EqNone.ne_none_int (cX I q (by simp))
  |str j=>obtain ⟨t',rfl⟩:=ry;exact PySem.EqNone.ne_none_str (cX I q (by simp))
  |_=>exact absurd (show false=true from hs) AS
 |bl i =>
  cases rx
  cases y with
  |aN=>cases ry;exact PySem.EqNone.ne_bool_none (cX I q (by simp))
  |bl j=>cases ry;exact ne_bool (cX I q (congrArg not Mm))
  |str j=>obtain ⟨t',rfl⟩:=ry;exact PySem.EqMixed.ne_bool_str (cX I q (by simp))
  |_=>exact absurd (show false=true from hs) AS
 |int i =>
  obtain ⟨t,rfl⟩:=rx
  cases y with
  |aN=>cases ry;exact PySem.EqNone.ne_int_none (cX I q (by simp))
  |int j=>obtain ⟨t',rfl⟩:=ry;exact ne_int (cX I q (congrArg not Lg))
  |str j=>obtain ⟨t',rfl⟩:=ry;exact PySem.EqMixed.ne_int_str (cX I q (by simp))
  |_=>exact absurd (show false=true from hs) AS
 |str i =>
  obtain ⟨t,rfl⟩:=rx
  cases y with
  |aN=>cases ry;exact PySem.EqNone.ne_str_none (cX I q (by simp))
  |bl j=>cases ry;exact PySem.EqMixed.ne_str_bool (cX I q (by simp))
  |int j=>obtain ⟨t',rfl⟩:=ry;exact PySem.EqMixed.ne_str_int (cX I q (by simp))
  |str j=>obtain ⟨t',rfl⟩:=ry;exact ne_str (cX I q (congrArg not Lh))
  |_=>exact absurd (show false=true from hs) AS
 |jk i =>
  obtain ⟨t,rfl⟩:=rx
  cases y with
  |jk j=>obtain ⟨t',rfl⟩:=ry;exact PySem.W.ne_bytes (cX I q (congrArg not Li))
  |_=>exact absurd (show false=true from hs) AS
 |_=>cases y<;>exact absurd (show false=true from hs) AS
theorem M6:dv X (compareOp .Lt) (oV fun i j=>.bl (decide (i<j))):=ye fun _ _ _ _ _ _ _ q=>lt_int q
theorem XU:dv X (compareOp .LtE) (oV fun i j=>.bl (decide (i<=j))):=ye fun _ _ _ _ _ _ _ q=>le_int q
theorem M7:dv X (compareOp .Gt) (oV fun i j=>.bl (decide (j<i))):=ye fun _ _ _ _ _ _ _ q=>gt_int q
theorem XW:dv X (compareOp .GtE) (oV fun i j=>.bl (decide (j<=i))):=ye fun _ _ _ _ _ _ _ q=>ge_int q
theorem T7:dv X (compareOp .In) (fun x y H Q=>∃ i j,x=.str i/\y=.str j/\Q (.bl (!(Builtin.Str.occurrences j i 0 j.length 1).isEmpty)) H):=by
 intro pins s σ H x y v u Q I rx ry h
 obtain ⟨i,j,rfl,rfl,q⟩:=h
 obtain ⟨t,rfl⟩:=rx
 obtain ⟨t',rfl⟩:=ry
 exact in_str (cX I q rfl)
theorem iO (b:Expr){op:CmpOp}(h:op ≠ .In:=by decide)(h2:op ≠ .NotIn:=by decide):behindInMarks op b=false:=by
 have e1:(op==CmpOp.In)=false:=by cases op<;>first | rfl | exact absurd rfl h
 have e2:(op==CmpOp.NotIn)=false:=by cases op<;>first | rfl | exact absurd rfl h2
 cases b<;>simp [behindInMarks,e1,e2]
theorem VH {op:CmpOp}{r:R2}(ho:dv X (compareOp op) r)(ha:PE X a ta)(hb:PE X b tb)(hm:behindInMarks op b=false):PE X (.Compare a [op] [b] pos) (iX r ta tb):=by
 intro pins s σ H Q I h
 exact wpAny_Compare1 (Fb ha hb I h fun v u s2 x y H2 I2 rx ry q=>ho pins s2 σ H2 x y v u Q I2 rx ry q) hm
def M8 (t:TE):TT:=fun σ H Q=>t σ H fun x H'=>∃ k,x=.bl k/\Q k H'
theorem VI {op:CmpOp}{r:R2}(ho:dv X (compareOp op) r)(ha:PE X a ta)(hb:PE X b tb)(hm:behindInMarks op b=false):PT X (.Compare a [op] [b] pos) (M8 (iX r ta tb)):=by
 intro pins s σ H Q I h
 refine wpAny_isTrue_Compare1 (aj (ha pins s σ H _ I h) fun v s1 ⟨x,H1,I1,r1,q1⟩=>aj (hb pins s1 σ H1 _ I1 q1) fun u s2 ⟨y,H2,I2,r2,q2⟩ =>
  aj (ho pins s2 σ H2 x y v u _ I2 r1 r2 q2) fun c s3 ⟨z,H3,I3,r3,k,e,q3⟩=>?_) hm
 subst e
 cases r3
 exact WI ⟨H3,I3,q3⟩
theorem sG:(sizeLine:Nat)<2 ^ 63:=by rw [sizeLine_eq];decide
theorem Th:dv X (binaryOp .Add) (fun x y H Q=>∃ i j,x=.str i/\y=.str j/\i.length+j.length<=sizeLine/\Q (.str (i++j)) H):=by
 intro pins s σ H x y v u Q I rx ry h
 obtain ⟨i,j,rfl,rfl,hz,q⟩:=h
 obtain ⟨t,rfl⟩:=rx
 obtain ⟨t',rfl⟩:=ry
 exact add_str (fun t' tk=>⟨.str (i++j),H,I.tok _,⟨_,rfl⟩,q⟩) hz
theorem vals1 {x:V}{us:List Value}(r:Vals [x] us):∃ u,us=[u]/\RelV x u:=by
 cases r with
 |cons r1 r2=>cases r2;exact ⟨_,rfl,r1⟩
theorem T8:fm X (.type "int") (fun xs H Q=>(∃ i,xs=[.int i]/\Q (.int i) H)\/∃ k,xs=[.bl k]/\Q (.int (if k then 1 else 0)) H):=by
 intro pins s σ H xs us Q I r h
 rcases h with ⟨i,rfl,q⟩ | ⟨k,rfl,q⟩
 ·obtain ⟨u,rfl,t,rfl⟩:=vals1 r
  exact call_int_int ⟨.int i,H,I,⟨_,rfl⟩,q⟩
 ·obtain ⟨u,rfl,r1⟩:=vals1 r
  cases r1
  exact call_int_bool ⟨.int (if k then 1 else 0),H,I.tok _,⟨_,rfl⟩,q⟩
theorem SA:fm X (.type "str") (fun xs H Q=>∃ i,xs=[.int i]/\i.natAbs.log2<1920/\Q (.str (toString i)) H):=by
 intro pins s σ H xs us Q I r h
 obtain ⟨i,rfl,hz,q⟩:=h
 obtain ⟨u,rfl,t,rfl⟩:=vals1 r
 exact PySem.P.str_of_int hz ⟨.str _,H,I.tok _,⟨_,rfl⟩,q⟩
end
structure Fc (h:Heap) (x dx C:Addr) (mA:Str->Option Value):Prop where
 obj:h.get? x=some (PySem.W.instObj C dx)
 ns:h.Ns1 dx mA
 ne:dx ≠ x
theorem T9 {h:Heap}{dx:Addr}{mA:Str->Option Value}(n:h.Ns1 dx mA):∃ od,h.get? dx=some od/\∀ name,PySem.W.lookIn name od=some (mA name):=by
 obtain ⟨o,es,ep,ho,hd,hk,_,hm⟩:=n
 refine ⟨o,ho,fun name=>?_⟩
 have e:=hm name
 unfold nsFind findBy at e
 rw [<- Array.find?_toList] at e
 unfold PySem.W.lookIn
 rw [hd]
 dsimp only
 split
 ·rename_i y q
  rw [q] at e
  exact congrArg some e
 ·rename_i q
  rw [q] at e
  have a:es.toList.any (·.refKey)=false:=by
   rw [RI]
   intro y hy
   obtain ⟨z,t,Yw⟩:=hk y (Array.mem_toList_iff.mp hy)
   simp [DictEntry.refKey,Yw]
  have a':¬ es.toList.any (·.refKey)=true:=by rw [a];exact AS
  rw [AM a']
  exact congrArg some e
theorem Fc.look {h:Heap}{x dx C:Addr}{mA:Str->Option Value}(I:Fc h x dx C mA):∃ od,PySem.W.InstAt h x (PySem.W.instObj C dx) C (some od)/\∀ name,PySem.W.lookIn name od=some (mA name) :=
 let ⟨od,ho,hl⟩:=T9 I.ns
 ⟨od,⟨I.obj,rfl,rfl,ho⟩,hl⟩
theorem qz.some_of {v:V}{o:Option Value}(r:qz (some v) o):∃ u,o=some u/\RelV v u:=by
 cases o with
 |none=>exact (show False from r).elim
 |some u=>exact ⟨u,rfl,r⟩
theorem Ua {v:V}{u:Value}(r:RelV v u):PySem.W.handedIn u=true:=by
 cases v with
 |aN=>cases (show u=Value.none from r);rfl
 |bl b=>cases (show u=Value.bool b from r);rfl
 |int i=>obtain ⟨t,e⟩:=(show ∃ t,u=Value.int i t from r);cases e;rfl
 |str x=>obtain ⟨t,e⟩:=(show ∃ t,u=Value.str x t from r);cases e;rfl
 |jk b=>obtain ⟨t,e⟩:=(show ∃ t,u=Value.bytes b t from r);cases e;rfl
 |oR b=>obtain ⟨t,e⟩:=(show ∃ t,u=Value.float b t from r);cases e;rfl
 |ref a=>cases (show u=Value.ref a from r);rfl
 |ty n=>cases (show u=Value.type n from r);rfl
section
variable {P:Program}{w:World}{H H':Hp}{h h':Heap}{a C dx:Addr}{fs fs':List (Str×V)}
theorem VJ (aq:cV P w H h)(e:H a=some (.ins C dx fs)):∃ mA,Fc h a dx C mA/\(∀ f,qz (fs.lookup f) (mA f))/\PySem.Within mA (fs.map (·.1))/\fs.length<=1000/\H dx=some (.own a):=by
 obtain ⟨d,z,ne,ob,mA,n,r,q⟩:=(show dD P w H h a (.ins C dx fs) from aq a _ e)
 exact ⟨mA,⟨ob,n,ne⟩,r,q,z,d⟩
end
structure FY (K:Frag) (C:Addr):Prop where
 pg:PySem.W.plainGet K C Str.empty=true
 hd:hasDictIn K C=true
 po:PySem.W.plainOver K C=true
 sa:findIn K (.ref C) "__setattr__" = some (some (.builtin "object.__setattr__"))
theorem FY.get {K:Frag}{C:Addr}(c:FY K C)(f:Str):PySem.W.plainGet K C f=true:=c.pg
def sI (K:Frag)(C:Addr)(f:Str):Prop:=findIn K (.ref C) f=some none
section
variable {X:Cx}{pins:List (Addr×Obj)}{σ:St}{H:Hp}{s:Shared}{a C dx:Addr}{fs:List (Str×V)}{f:Str}{v:V}{A:Around}{E:Value->Shared->Prop}
theorem VL {prog:Program}{w:World}{env:Env}{e:Expr}{f:Str}{pos:Pos}{s:Shared}{Q:Value->Shared->Prop}(hb:attributeBase e f env (eval e env)=eval e env)(h:wpAny (model prog w) A (eval e env) (fun o bf=>wpAny (model prog w) A (getAttr o f true) Q E bf) E s):wpAny (model prog w) A (eval (.Attribute e f pos) env) Q E s :=
 Attribute_any_ h (by rw [arm_eval_Attribute,hb])
end
section
variable {X:Cx}{pins:List (Addr×Obj)}{σ:St}{H:Hp}{s:Shared}{A:Around}{E:Value->Shared->Prop}{Q:Value->Shared->Prop}{c:Value}{b:Bool}
inductive jW (K:Frag) (H:Hp):V->Value->Prop where
 |aN:jW K H .aN (.type "NoneType")
 |bl (x:Bool):jW K H (.bl x) (.type "bool")
 |int (i:Int):jW K H (.int i) (.type "int")
 |str (x:Str):jW K H (.str x) (.type "str")
 |oR (x:UInt64):jW K H (.oR x) (.type "float")
 |lst {a:Addr} {xs:List V} (e:H a=some (.lst xs)):jW K H (.ref a) (.type "list")
 |dt {a:Addr} {o:Obj} {xs:List V} (e:H a=some (.dt o (.lst xs))):jW K H (.ref a) (.type "list")
 |tup {a:Addr} {xs:List V} (e:H a=some (.tup xs)):jW K H (.ref a) (.type "tuple")
 |dK {a:Addr} {dH:List (Key×V)} (e:H a=some (.dK dH)):jW K H (.ref a) (.type "dict")
 |dT {a:Addr} {dH:List (List Key×V)} (e:H a=some (.dT dH)):jW K H (.ref a) (.type "dict")
 |ins {a C dx:Addr} {fs:List (Str×V)} (e:H a=some (.ins C dx fs)) (cl:FY K C) (ha:findIn K (.ref C) "__class__" = some (some (.builtin "object.__class__")))
   (hn:PySem.W.specialIn K (.builtin "object.__class__") "__get__" = some (some (.builtin "getset_descriptor.__get__"))) (PY:PySem.W.takesIn K (.builtin "object.__class__")=some true)
   (hm:mroIn K C (.type "object")=some true):jW K H (.ref a) (.ref C)
theorem wF {x:V}{u t:Value}(I:Inv X pins σ H s)(rx:RelV x u)(ty:jW X.K H x t)(e:kitOne X.K t c=some b)(h:∀ tk,Q (.bool b) { s with toks:=tk }) :
  wpAny (model X.prog X.w) A (call (.builtin "isinstance") [u,c]) Q E s:=by
 cases ty with
 |aN=>cases (show u=Value.none from rx);exact ab7 PySem.W.kitx_none I.cB True.intro e (fun z=>nomatch z) h
 |bl y=>cases (show u=Value.bool y from rx);exact ab7 PySem.W.kitx_bool I.cB True.intro e (fun z=>nomatch z) h
 |int i=>obtain ⟨t,q⟩:=(show ∃ t,u=Value.int i t from rx);cases q;exact ab7 PySem.W.kitx_int I.cB True.intro e (fun z=>nomatch z) h
 |str y=>obtain ⟨t,q⟩:=(show ∃ t,u=Value.str y t from rx);cases q;exact ab7 PySem.W.kitx_str I.cB True.intro e (fun z=>nomatch z) h
 |oR y=>obtain ⟨t,q⟩:=(show ∃ t,u=Value.float y t from rx);cases q;exact ab7 PySem.W.kitx_float I.cB True.intro e (fun z=>nomatch z) h
 | @lst a xs ea =>
  cases (show u=Value.ref a from rx)
  obtain ⟨_,_,n,_,h1⟩:=(show dD X.prog X.w H s.heap a (.lst xs) from I.aq a _ ea)
  exact ab7 acH I.cB ⟨_,h1,rfl⟩ e (fun z=>nomatch z) h
 | @dt a ob xs ea =>
  cases (show u=Value.ref a from rx)
  obtain ⟨_,_,_,n,_,h1⟩:=(show dD X.prog X.w H s.heap a (.dt ob (.lst xs)) from I.aq a _ ea)
  exact ab7 acH I.cB ⟨_,h1,rfl⟩ e (fun z=>nomatch z) h
 | @tup a xs ea =>
  cases (show u=Value.ref a from rx)
  obtain ⟨_,_,_,p⟩:=(show dD X.prog X.w H s.heap a (.tup xs) from I.aq a _ ea)
  obtain ⟨o,h1,h2,_⟩:=p
  exact ab7 PySem.W.kitx_tuple I.cB ⟨o,h1,h2⟩ e (fun z=>nomatch z) h
 | @dK a dH ea =>
  cases (show u=Value.ref a from rx)
  obtain ⟨_,_,vs,_,p⟩:=(show dD X.prog X.w H s.heap a (.dK dH) from I.aq a _ ea)
  obtain ⟨o,es,ep,h1,h2,_⟩:=p
  exact ab7 PySem.W.kitx_dict I.cB ⟨o,h1,h2.1⟩ e (fun z=>nomatch z) h
 | @dT a dH ea =>
  cases (show u=Value.ref a from rx)
  obtain ⟨_,_,xs,_,o,es,ep,h1,h2,_⟩:=(show dD X.prog X.w H s.heap a (.dT dH) from I.aq a _ ea)
  exact ab7 PySem.W.kitx_dict I.cB ⟨o,h1,h2.1⟩ e (fun z=>nomatch z) h
 | @ins a C dx fs ea cl ha hn PY hm =>
  cases (show u=Value.ref a from rx)
  obtain ⟨mA,O,_⟩:=VJ I.aq ea
  obtain ⟨od,J,_⟩:=O.look
  exact ab7 (PySem.W.kitx_own (cl.get _) cl.hd ha hn PY hm) I.cB J e (fun z=>nomatch z) h
end
structure dk (k:Nat) (A:Around):Prop where
 hd:A.handled=none
 dp:A.depth+3*k+5<recursionLimit
 un:A.units+16*k+200<cLine
theorem dk.mono {j k:Nat}{A:Around}(r:dk k A)(h:j<=k):dk j A:=⟨r.hd,by have:=r.dp;omega,by have:=r.un;omega⟩
theorem dk.deeper {k:Nat}{A:Around}(r:dk (k+1) A)(env:Env):dk k (A.deeper env) :=
 ⟨r.hd,by have:=r.dp;show A.depth+1+3*k+5<_;omega,by have:=r.un;show A.units+3+16*k+200<_;omega⟩
theorem Ti {A:Around}{C:Addr}{us:List Value}{kw:List (Str×Value)}:(A.under (.builtin "type.__call__" ⟨.ref C::us,kw⟩)).depth=A.depth+1:=by
 first | rfl | simp [Around.under,Code.weight,Code.isCreation,Code.isGuard,Code.isCaller,Code.frames,Code.isFrame,guardIds]
theorem Tj {A:Around}{C:Addr}{us:List Value}{kw:List (Str×Value)}:(A.under (.builtin "type.__call__" ⟨.ref C::us,kw⟩)).units=A.units+1:=by
 first | rfl | simp [Around.under,Code.cUnits,Code.frames,Code.isFrame]
theorem dk.make {k:Nat}{A:Around}(r:dk (k+1) A)(C:Addr)(us:List Value)(kw:List (Str×Value)):dk k (A.under (.builtin "type.__call__" ⟨.ref C::us,kw⟩)) :=
 ⟨r.hd,by have:=r.dp;rw [Ti];omega,by have:=r.un;rw [Tj];omega⟩
theorem dk.depth {k:Nat}{A:Around}(r:dk k A):A.depth<recursionLimit:=by have:=r.dp;omega
theorem dk.units {k:Nat}{A:Around}(r:dk k A):A.units+64<cLine:=by have:=r.un;omega
def ck:TA:=fun _ H Q=>Q [] H
def aT (ta:TE)(tr:TA):TA:=fun σ H Q=>ta σ H fun x H1=>tr σ H1 fun xs H2=>Q (x::xs) H2
section
variable {X:Cx}{e:Expr}{es:List Expr}{te:TE}{t:TA}{pos:Pos}
theorem aV:PA X [] ck:=fun _ _ _ _ H Q I h=>Calls.spliced_nil ⟨[],H,I,.nil,h⟩
theorem au (ha:PE X e te)(hr:PA X es t)(hs:starEach (e::es) X.env=(false,eval e X.env)::starEach es X.env:=by rfl):PA X (e::es) (aT te t):=by
 intro pos pins s σ H Q I h
 rw [hs]
 show wpAny _ _ (spliced ((false,eval e X.env)::backTo pos (starEach es X.env))) _ _ s
 refine abV (aj (ha pins s σ H _ I h) fun u s1 ⟨x,H1,I1,r1,q1⟩=>?_)
 exact aj (hr pos pins s1 σ H1 _ I1 q1) fun us s2 ⟨xs,H2,I2,r2,q2⟩=>⟨x::xs,H2,I2,.cons r1 r2,q2⟩
def qA (t:TA):TE:=fun σ H Q=>t σ H fun xs H1=>xs.length<=sizeLine/\∀ p,H1 p=none->Q (.ref p) (upd H1 p (.tup xs))
def N4 (t:TA):TE:=fun σ H Q=>t σ H fun xs H1=>xs.length<=sizeLine/\∀ p,H1 p=none->Q (.ref p) (upd H1 p (.lst xs))
theorem sJ {x1}(h:PA X es t):PE X (.Tuple es x1 pos) (qA t):=by
 intro pins s σ H Q I hq
 refine wpAny_Tuple_spliced (aj (h pos pins s σ H _ I hq) fun us s1 ⟨xs,H1,I1,r,z,q⟩=>⟨by rw [<- r.length];exact z,?_⟩)
 have hf:H1 s1.heap.objs.size=none:=I1.aq.fresh (ee _)
 refine ⟨.ref s1.heap.objs.size,upd H1 s1.heap.objs.size (.tup xs),I1.laid (t':=s1.toks) (fun b u e=>gc _ e) (ee _) ?_,rfl,q _ hf⟩
 exact ⟨z,us,r,⟨_,ze _ rfl,rfl,_,rfl⟩⟩
theorem u5 (h:PA X es t):PE X (.List es pos) (N4 t):=by
 intro pins s σ H Q I hq
 refine wpAny_List_spliced (aj (h pos pins s σ H _ I hq) fun us s1 ⟨xs,H1,I1,r,z,q⟩=>⟨by rw [<- r.length];exact z,?_⟩)
 have hf:H1 s1.heap.objs.size=none:=I1.aq.fresh (ee _)
 refine ⟨.ref s1.heap.objs.size,upd H1 s1.heap.objs.size (.lst xs),I1.laid (t':=s1.toks) (fun b u e=>gc _ e) (ee _) ?_,rfl,q _ hf⟩
 exact ⟨z,us,0,r,ze _ rfl⟩
end
abbrev Sp:=List V->Hp->VK->XK->Prop
abbrev fU:=List Env->Hp->Shared->XK->Value->Shared->Prop
structure m9 (P:Program) (w:World) (K:Frag) (mg:Str->Option Value) (base:Heap) (A:Around) (outer:List Env) (s:Shared) (H:Hp):Prop where
 frames:A.frames=some outer
 mod:Mod K mg base
 bs:∀ b o,base.get? b=some o->s.heap.get? b=some o/\H b=none
 iW:base.objs.size<=s.heap.objs.size
 eu:s.heap.FunFrames base outer
 gR:∀ b ∈ bg outer,H b=none
 aq:cV P w H s.heap
 bare:AllBare s.gens
def CE (outer:List Env)(P:Program)(w:World)(H:Hp)(s:Shared)(Q:VK)(u:Value)(s':Shared):Prop :=
 ∃ v H',s'.os=s.os/\AllBare s'.gens/\Un (bg outer) [] H H' s.heap s'.heap/\cV P w H' s'.heap/\RelV v u/\Q v H'
def CR (CX:fU)(outer:List Env)(P:Program)(w:World)(H:Hp)(s:Shared)(Q:VK)(E:XK)(r:Result)(s':Shared):Prop :=
 match r with
 | .ok (.ret u)=>CE outer P w H s Q u s'
 | .ok _=>False
 | .error e=>CX outer H s E e s'
structure bc (P:Program) (w:World) (K:Frag) (mg:Str->Option Value) (base:Heap) (CX:fU) (k:Nat) (f:Addr) (fd:FuncData) (ps:List Str) (sp:Sp):Prop where
 len:∀ vs H Q E,sp vs H Q E->vs.length=ps.length
 run:∀ (A:Around) (outer:List Env) (s:Shared) (H:Hp) (args:Args) (us:List Value) (vs:List V) (Q:VK) (E:XK),dk k A->m9 P w K mg base A outer s H->BindsTo s fd args (ps.zip us)->Vals vs us->sp vs H Q E ->
  codeAny (model P w) A (.call (.ref f) args) (CR CX outer P w H s Q E) s
theorem bc.imp {P:Program}{w:World}{K:Frag}{mg:Str->Option Value}{base:Heap}{CX:fU}{k:Nat}{f:Addr}{fd:FuncData}{ps:List Str}{sp PZ:Sp}(F:bc P w K mg base CX k f fd ps sp)(h:∀ vs H Q E,PZ vs H Q E->sp vs H Q E):bc P w K mg base CX k f fd ps PZ :=
 ⟨fun vs H Q E q=>F.len vs H Q E (h _ _ _ _ q),fun A outer s H args us vs Q E hr he hb hv hs=>F.run A outer s H args us vs Q E hr he hb hv (h _ _ _ _ hs)⟩
theorem m9.make {P:Program}{w:World}{K:Frag}{mg:Str->Option Value}{base:Heap}{A:Around}{outer:List Env}{s:Shared}{H:Hp}(e:m9 P w K mg base A outer s H)(C:Addr)(us:List Value)(kw:List (Str×Value)) :
  m9 P w K mg base (A.under (.builtin "type.__call__" ⟨.ref C::us,kw⟩)) outer s H:=⟨by first | exact e.frames | (simpa [Around.under,Code.envs,Code.isFrame,pushEnvs] using e.frames),e.mod,e.bs,e.iW,e.eu,e.gR,e.aq,e.bare⟩
section
variable {X:Cx}{pins:List (Addr×Obj)}{σ:St}{H:Hp}{s s':Shared}
theorem Inv.yf (I:Inv X pins σ H s):m9 X.prog X.w X.K X.mg X.base X.A X.stack s H :=
 ⟨I.ok.frames,I.ok.mod,I.bs,EM I.ok.iW I.sz,I.stack,I.wW,I.aq,I.bare⟩
theorem Inv.after {Q:VK}{u:Value}(I:Inv X pins σ H s)(h:CE X.stack X.prog X.w H s Q u s'):EP X pins σ Q u s':=by
 obtain ⟨v,H',os,bare,un,aq,r,q⟩:=h
 obtain ⟨hh,g,d,t,qR⟩:=s'
 obtain rfl:qR=s.os:=os
 exact ⟨v,H',I.call (h':=hh) (g':=g) (d':=d) (t':=t) (ch:=[]) un aq bare (fun b z=>absurd z (by simp)),r,q⟩
end
def vo (sp:Sp)(iD:List V)(E:XK)(t:TA):TE:=fun σ H Q=>t σ H fun vs H1=>sp (vs++iD) H1 Q E
def Binds (K:Frag)(fd:FuncData)(ps:List Str)(ds:List Value):Prop :=
 ∀ (s:Shared) (us:List Value),K.In s.heap->(us++ds).length=ps.length->BindsTo s fd ⟨us,[]⟩ (ps.zip (us++ds))
theorem Binds.all {K:Frag}{fd:FuncData}{ps:List Str}(h:∀ us:List Value,us.length=ps.length->bindArgs fd ⟨us,[]⟩=pure (ps.zip us)):Binds K fd ps []:=fun s us _ hl=>by
 rw [CS] at hl ⊢
 exact .of_eq (h us hl)
def Passes (CX:fU)(X:Cx)(E:XK):Prop:=∀ (pins:List (Addr×Obj)) (σ:St) (H:Hp) (s:Shared) (e:Value) (s':Shared),Inv X pins σ H s->CX X.stack H s E e s'->X.xe e s'
section
variable {X:Cx}{CX:fU}{k:Nat}{f C:Addr}{fd:FuncData}{ps:List Str}{sp:Sp}{iD:List V}{ds:List Value}{E:XK}{x m:Str}{p pos apos:Pos}{e o:Expr}{es:List Expr}{ta:TE}{t:TA}
theorem WN {pins:List (Addr×Obj)}{σ:St}{H:Hp}{s:Shared}{Q:VK}{us:List Value}{vs:List V}(F:bc X.prog X.w X.K X.mg X.base CX k f fd ps sp)(hr:dk k X.A)(hb:Binds X.K fd ps ds)(hd:Vals iD ds)(hx:Passes CX X E)(I:Inv X pins σ H s)(r:Vals vs us)(h:sp (vs++iD) H Q E):wpAny (model X.prog X.w) X.A (call (.ref f) us) (EP X pins σ Q) X.xe s:=by
 have r2:Vals (vs++iD) (us++ds):=r.append hd
 have hl:(us++ds).length=ps.length:=by rw [<- r2.length];exact F.len _ _ _ _ h
 refine abH (YE (F.run X.A X.stack s H ⟨us,[]⟩ (us++ds) (vs++iD) Q E hr I.yf (hb s us I.cB hl) r2 h) fun r s' hq=>?_)
 cases r with
 |error e=>exact hx pins σ H s e s' I hq
 |ok fl =>
  cases fl with
  |ret u=>exact I.after hq
  |next=>exact False.elim hq
  |brk=>exact False.elim hq
  |cont=>exact False.elim hq
theorem VM (F:bc X.prog X.w X.K X.mg X.base CX k f fd ps sp)(hr:dk k X.A)(hg:Gl X x)(hm:X.mg x=some (.ref f))(hk:keepIn X.K (.ref f)=true)(hb:Binds X.K fd ps ds)(hd:Vals iD ds)(hx:Passes CX X E)(ha:PA X (e::es) t)(hdb:(x==("__debug__" : Str))=false:=by decide)(he:starEach (e::es) X.env=(false,eval e X.env)::starEach es X.env:=by rfl)(cv:(backTo pos (starEach es X.env)).any (·.1)=false:=by rfl) :
  PE X (.Call (.Name x p) (e::es) [] pos) (vo sp iD E t):=by
 intro pins s σ H Q I h
 refine US (pS I hg hm ?_ hdb)
 refine callWith_K (h₀:=X.base) I.ok.mod.nk hk (aj (ha pos pins s σ H _ I h) fun us s1 ⟨vs,H1,I1,r,q⟩=>⟨I1.cB,?_⟩) he cv
 exact WN F hr hb hd hx I1 r q
end
structure cH (N P:List Str) (sc:Scope):Prop where
 kind:sc.kind=.function
 co:sc.isCoroutine=false
 gen:sc.isGenerator=false
 nd:N.Nodup
 pre:N.take P.length=P
 par:∀ x ∈ P,sc.names.lookup x=some .local\/sc.names.lookup x=some .cell
 WO:∀ y ∈ sc.names,y.2 ≠ .free
theorem eA {N P:List Str}{sc:Scope}(a:sc.kind=.function:=by rfl)(b:sc.isCoroutine=false:=by rfl)(c:sc.isGenerator=false:=by rfl)(d:N.Nodup:=by decide +kernel)(e:N.take P.length=P:=by rfl)(f:∀ x ∈ P,sc.names.lookup x=some .local\/sc.names.lookup x=some .cell:=by decide +kernel)(g:∀ y ∈ sc.names,y.2 ≠ .free:=by decide +kernel):cH N P sc:=⟨a,b,c,d,e,f,g⟩
theorem JP {kindOf:Str->Option NameKind}{x:Str}:∀ {binds:List (Str×Value)} {m:Str->Option Value},(∀ v,(x,v) ∉ binds)->bindL kindOf binds m x=m x
 |[],_,_=>rfl
 |(n,v)::r,m,h=>by
  unfold bindL
  rw [JP fun w hw=>h w (LH _ hw)]
  split
  ·have:x ≠ n:=by rintro rfl;exact h v abP
   simp [this]
  ·rfl
theorem JQ {kindOf:Str->Option NameKind}{x:Str}:∀ {binds:List (Str×Value)} {m:Str->Option Value},(∀ v,(x,v) ∉ binds)->bindC kindOf binds m x=m x
 |[],_,_=>rfl
 |(n,v)::r,m,h=>by
  unfold bindC
  rw [JQ fun w hw=>h w (LH _ hw)]
  split
  ·rfl
  ·have:x ≠ n:=by rintro rfl;exact h v abP
   simp [this]
theorem JR {kindOf:Str->Option NameKind}{x:Str}{v:Value}:∀ {P:List Str} {vs:List Value} {i:Nat} {m:Str->Option Value},P.Nodup->P[i]?=some x->vs[i]?=some v->kindOf x=some .local ->
  bindL kindOf (P.zip vs) m x=some v
 |[],_,_,_,_,h,_,_=>by simp at h
 |_::_,[],_,_,_,_,h,_=>by simp at h
 |p::P,w::vs,0,m,nd,h1,h2,hk=>by
  simp at h1 h2;subst h1;subst h2
  show bindL kindOf ((p,w)::P.zip vs) m p=_
  unfold bindL
  rw [JP fun v hv=>(BB.mp nd).1 (abr hv).1,Cn hk]
  simp
 |p::P,w::vs,i+1,m,nd,h1,h2,hk=>by
  show bindL kindOf ((p,w)::P.zip vs) m x=_
  unfold bindL
  exact JR (i:=i) (BB.mp nd).2 (by simpa using h1) (by simpa using h2) hk
theorem JS {kindOf:Str->Option NameKind}{x:Str}{v:Value}:∀ {P:List Str} {vs:List Value} {i:Nat} {m:Str->Option Value},P.Nodup->P[i]?=some x->vs[i]?=some v->kindOf x ≠ some .local ->
  bindC kindOf (P.zip vs) m x=some v
 |[],_,_,_,_,h,_,_=>by simp at h
 |_::_,[],_,_,_,_,h,_=>by simp at h
 |p::P,w::vs,0,m,nd,h1,h2,hk=>by
  simp at h1 h2;subst h1;subst h2
  show bindC kindOf ((p,w)::P.zip vs) m p=_
  unfold bindC
  rw [JQ fun v hv=>(BB.mp nd).1 (abr hv).1,AM hk]
  simp
 |p::P,w::vs,i+1,m,nd,h1,h2,hk=>by
  show bindC kindOf ((p,w)::P.zip vs) m x=_
  unfold bindC
  exact JS (i:=i) (BB.mp nd).2 (by simpa using h1) (by simpa using h2) hk
def start (N:List Str)(vs:List V):St:=vs.map some++List.replicate (N.length-vs.length) none
def bj (CX:fU)(P:Program)(w:World)(K:Frag)(mg:Str->Option Value)(base:Heap)(N:List Str)(qual:Str)(scope:Scope)(f:Addr)(cd:Value)(A:Around)(outer:List Env)(s:Shared)(H:Hp)(E:XK):Cx where
 prog:=P
 w:=w
 K:=K
 mg:=mg
 base:=base
 A:=A.deeper (envOfC qual scope s.heap.objs.size f cd)
 N:=N
 bW:=s
 vw:=H
 env:=envOfC qual scope s.heap.objs.size f cd
 outer:=outer
 stack:=envOfC qual scope s.heap.objs.size f cd::outer
 ex:=[]
 calm:=true
 fn:=fun _=>true
 pn:=[]
 xe:=fun e s'=>wpAny (model P w) (A.deeper (envOfC qual scope s.heap.objs.size f cd)) (leaving (envOfC qual scope s.heap.objs.size f cd) e) (fun _ e8=>CX outer H s E e e8) (fun e' e8=>CX outer H s E e' e8) s'
theorem C6 {sc:Scope}{n:Nat}{x:Str}(h:sc.names.lookup x=some .cell):∃ c,(cellsFrom n sc.names []).lookup x=some c:=by
 have q:=ab2 sc.names n [] (.inl h)
 exact Option.isSome_iff_exists.mp q
theorem JT {CX:fU}{P:Program}{w:World}{K:Frag}{mg:Str->Option Value}{base:Heap}{N ps:List Str}{qual:Str}{scope:Scope}{f:Addr}{cd:Value}{A:Around}{outer:List Env}{s s1:Shared}{H:Hp}{E:XK}{us:List Value}{vs:List V}(S:cH N ps scope)(hd:A.handled=none)(e0:m9 P w K mg base A outer s H)(hl:vs.length=ps.length)(r:Vals vs us)(x:InCallC s s.heap.objs.size (bindL (envOfC qual scope s.heap.objs.size f cd).kindOf (ps.zip us) fun _=>none) (cellsFrom (s.heap.objs.size+1) scope.names []) (bindC (envOfC qual scope s.heap.objs.size f cd).kindOf (ps.zip us) fun _=>none) s1) :
  Inv (bj CX P w K mg base N qual scope f cd A outer s H E) [] (start N vs) H s1:=by
 have cv:ps.length<=N.length:=by have:=congrArg List.length S.pre;rw [DO] at this;omega
 obtain ⟨h1,tk,rfl,hk⟩:=x.done
 have vQ:∀ b:Addr,b ∉ (bj CX P w K mg base N qual scope f cd A outer s H E).ex:=fun b z=>absurd (show b ∈ ([]:List Addr) from z) (by simp)
 refine ⟨⟨e0.mod,S.kind,rfl,rfl,ee _,fun y z c h1 h2=>?_,fun y hy=>?_,fun y c _ h=>?_,fun _=>hd,Around.frames_deeper e0.frames,.inr ⟨rfl,rfl⟩,fun b z=>absurd z (vQ b),e0.bs,e0.iW,fun b _ _=>vQ b,fun b z=>absurd z (vQ b),e0.eu,e0.gR⟩,
  rfl,e0.bare,Un.kept hk,⟨_,x.toInCall.ns,fun i y v h1 h2 h3=>?_⟩,fun y c h=>⟨_,x.cell y c h⟩,e0.aq.fresh (ee _),fun y c h=>?_,fun p hp=>absurd (show p ∈ ([]:List (Addr×Obj)) from hp) (by simp),e0.aq.kept hk,?_⟩
 ·exact name_of_addr x.apart (YU h1) (YU h2)
 ·have hy:scope.names.lookup y=some .cell\/scope.names.lookup y=some .free:=hy
  rcases hy with hy | hy
  ·exact C6 hy
  ·exact absurd rfl (S.WO _ (YU hy))
 ·exact Nat.le_of_lt (x.above y c (YU h))
 ·have hi:i<vs.length:=by
   unfold start at h2
   by_cases hi:i<vs.length
   ·exact hi
   ·rw [BS (by simpa using hi)] at h2
    rw [List.getElem?_replicate] at h2
    split at h2<;>cases h2
  have ha:vs[i]?=some v:=by
   unfold start at h2
   rw [IF (by simpa using hi),i4] at h2
   cases e:vs[i]? with
   |none=>rw [e] at h2;cases h2
   |some a=>rw [e] at h2;cases h2;rfl
  obtain ⟨u,hu,rv⟩:=r.get ha
  have hp:ps[i]?=some y:=by
   rw [<- S.pre,WJ (by omega)];exact h1
  have P0:ps.Nodup:=by rw [<- S.pre];exact S.nd.sublist (List.take_sublist _ _)
  refine ⟨u,rv,?_⟩
  rcases S.par y (ma hp) with k | k
  ·exact .inl ⟨k,JR P0 hp hu k⟩
  ·obtain ⟨c,e⟩:=C6 (n:=s.heap.objs.size+1) k
   refine .inr ⟨.inl k,c,e,?_⟩
   have q:=x.cell y c e
   rw [JS P0 hp hu (by show scope.names.lookup y ≠ _;rw [k];decide)] at q
   exact q
 ·exact e0.aq.fresh (Nat.le_of_lt (x.above y c (YU h)))
 ·unfold start
  show _=N.length
  rw [ir,aa,List.length_replicate]
  omega
theorem M9 {CX:fU}{P:Program}{w:World}{K:Frag}{mg:Str->Option Value}{base:Heap}{k:Nat}{f:Addr}{name qual:Str}{params:Arguments}{body:List Stmt}{scope:Scope}{dV kV doc pm az ct oc:Value}{an od:Option Addr}{gS:Array (Option Value)}{N ps:List Str}{sp:Sp}(lk:K.lookup f=some ⟨oc,od,.func (fnOf name qual params body scope dV kV doc pm an az ct),gS⟩)(ie:codeIn K az qual=true)(S:cH N ps scope)(len:∀ vs H Q E,sp vs H Q E->vs.length=ps.length)(qf:∀ (A:Around) (outer:List Env) (s:Shared) (H:Hp) (vs:List V) (Q:VK) (E:XK),dk k (A.deeper (envOfC qual scope s.heap.objs.size f az))->sp vs H Q E ->
   ∃ t,df (bj CX P w K mg base N qual scope f az A outer s H E) body t/\t { nx:=fun _ H'=>Q .aN H',rt:=Q } (start N vs) H) :
  bc P w K mg base CX (k+1) f (fnOf name qual params body scope dV kV doc pm an az ct) ps sp:=by
 refine ⟨len,fun A outer s H args us vs Q E hr e0 hb r jq=>?_⟩
 have hl:=len _ _ _ _ jq
 have KX:K.In s.heap:=e0.mod.nk.keeps fun b o e=>(e0.bs b o e).1
 have lim:s.heap.NoLimit:=e0.mod.nolimit.keeps fun b o e=>(e0.bs b o e).1
 have xN:∀ y ∈ ps.zip us,scope.names.lookup y.1=some .local\/(scope.names.lookup y.1=some .cell/\((cellsFrom (s.heap.objs.size+1) scope.names []).lookup y.1).isSome=true):=fun ⟨n,v⟩ hy=>by
  rcases S.par n (abr hy).1 with q | q
  ·exact .inl q
  ·exact .inr ⟨q,ab2 _ _ _ (.inl q)⟩
 refine codeAny_call_function hr.depth (KX _ _ lk) rfl S.co S.gen rfl (PySem.W.codeRec_of KX ie) (hb _ _ _ _ ?_)
 refine wpAny_newFunctionEnv_cells S.kind xN fun env he s1 x=>?_
 subst he
 refine ⟨lim.keeps x.toInCall.keep,codeAny_func ?_⟩
 obtain ⟨t,ht,hq⟩:=qf A outer s H vs Q E (hr.deeper _) jq
 have I:Inv (bj CX P w K mg base N qual scope f az A outer s H E) [] (start N vs) H s1:=JT S hr.hd e0 hl r x
 refine ET (ht [] s1 (start N vs) H _ I hq) (fun fl s' hs=>?_) fun e s' hs=>hs
 have fin:∀ {aA:St} {H':Hp} {v:V} {u:Value},Inv (bj CX P w K mg base N qual scope f az A outer s H E) [] aA H' s'->RelV v u->Q v H'->CE outer P w H s Q u s' :=
  fun {aA H' v u} J rv q=>⟨v,H',J.os,J.bare,J.base,J.aq,rv,q⟩
 cases fl with
 |ret u =>
  obtain ⟨v,aA,H',J,rv,q⟩:=hs
  exact fin J rv q
 |next =>
  obtain ⟨aA,H',J,q⟩:=hs
  exact fin (v:=V.aN) (u:=Value.none) J rfl q
 |brk =>
  obtain ⟨_,_,_,q⟩:=hs
  exact False.elim q
 |cont =>
  obtain ⟨_,_,_,q⟩:=hs
  exact False.elim q
section
variable {X:Cx}{x:Str}{p pos:Pos}{e:Expr}{es:List Expr}{t:TA}{id T:String}{r:List V->Hp->VK->Prop}
def nr (r:List V->Hp->VK->Prop)(t:TA):TE:=fun σ H Q=>t σ H fun vs H1=>r vs H1 Q
theorem fL (hc:fm X (.builtin id) r)(hg:Gl X x)(hm:X.mg x=none)(hv:bootBuiltins x=some (.builtin id))(ha:PA X (e::es) t)(hn:x ≠ "__name__" := by decide)(hdb:(x==("__debug__" : Str))=false:=by decide)(he:starEach (e::es) X.env=(false,eval e X.env)::starEach es X.env:=by rfl)(cv:(backTo pos (starEach es X.env)).any (·.1)=false:=by rfl):PE X (.Call (.Name x p) (e::es) [] pos) (nr r t):=by
 intro pins s σ H Q I h
 refine US (n8 I hg hm hv ?_ hn hdb)
 exact PyProof.Rows.callWith_builtin1 (aj (ha pos pins s σ H _ I h) fun us s1 ⟨vs,H1,I1,r1,q1⟩=>hc pins s1 σ H1 vs us Q I1 r1 q1) he cv
theorem wG (hc:fm X (.type T) r)(hg:Gl X x)(hm:X.mg x=none)(hv:bootBuiltins x=some (.type T))(ha:PA X (e::es) t)(hn:x ≠ "__name__" := by decide)(hdb:(x==("__debug__" : Str))=false:=by decide)(he:starEach (e::es) X.env=(false,eval e X.env)::starEach es X.env:=by rfl)(cv:(backTo pos (starEach es X.env)).any (·.1)=false:=by rfl):PE X (.Call (.Name x p) (e::es) [] pos) (nr r t):=by
 intro pins s σ H Q I h
 refine US (n8 I hg hm hv ?_ hn hdb)
 exact Me (aj (ha pos pins s σ H _ I h) fun us s1 ⟨vs,H1,I1,r1,q1⟩=>hc pins s1 σ H1 vs us Q I1 r1 q1) he cv
end
end L2
namespace HT
open PySem PyProof.Rows
section
variable {prog:Program}{w:World}{A:Around}{E:Value->Shared->Prop}{s:Shared}
def fV (n d:Nat):Option Int->Nat
 |none=>d
 |some v=>if v<0 then (v+(n:Int)).toNat else min v.toNat n
theorem wY (n d k:Nat):fV n d (some (k:Int))=min k n:=by
 show (if (k:Int)<0 then ((k:Int)+(n:Int)).toNat else min (k:Int).toNat n)=min k n
 rw [AM (by omega),NJ]
end
end HT
namespace L2
open PySem PySem.Spec PyProof.Rows
abbrev TO:=St->Hp->(Option Int->Hp->Prop)->Prop
def PO (X:Cx)(e:Option Expr)(t:TO):Prop :=
 ∀ (pins:List (Addr×Obj)) (s:Shared) (σ:St) (H:Hp) (Q:Option Int->Hp->Prop),Inv X pins σ H s->t σ H Q ->
  wpAny (model X.prog X.w) X.A (evalPart e X.env) (fun u s'=>∃ o H',Inv X pins σ H' s'/\IsPart u o/\Q o H') X.xe s
def Lj:TO:=fun _ H Q=>Q none H
def xO (t:TE):TO:=fun σ H Q=>t σ H fun x H1=>∃ i,x=.int i/\Q (some i) H1
theorem intsAre_of {ns:LI}:∀ {us:List Value},Vals (ns.map V.int) us->IntsAre us ns:=by
 induction ns with
 |nil=>intro us r;rw [List.map_nil] at r;cases r;exact .nil
 |cons n ns ih =>
  intro us r
  rw [ES] at r
  cases r with
  |cons r1 r2 =>
   obtain ⟨t,e⟩:=r1
   subst e
   exact .cons n t (ih r2)
section
variable {X:Cx}{e:Expr}{te:TE}{lo hi:Option Expr}{tl th:TO}{pos p2:Pos}
theorem VN:PO X none Lj:=by
 intro pins s σ H Q I h
 rw [evalPart_none]
 exact wb ⟨none,H,I,.none,h⟩
theorem DF (h:PE X e te):PO X (some e) (xO te):=by
 intro pins s σ H Q I hw
 rw [evalPart_some]
 refine aj (h pins s σ H _ I hw) fun u s1 ⟨x,H1,I1,r1,q1⟩=>?_
 obtain ⟨i,rfl,q⟩:=q1
 obtain ⟨t,rfl⟩:=r1
 exact ⟨some i,H1,I1,.int i t,q⟩
def FZ (X:Cx)(r:V->Option Int->Option Int->Hp->VK->Prop):Prop :=
 ∀ (pins:List (Addr×Obj)) (s:Shared) (σ:St) (H:Hp) (x:V) (v vl vu:Value) (lo hi:Option Int) (sl:Addr) (Q:VK),Inv X pins σ H s->RelV x v->s.heap.IsSliceOf sl vl vu .none->IsPart vl lo->IsPart vu hi->r x lo hi H Q ->
  ∃ T id,typeLookup (.type T) "__getitem__" = pure (some (.builtin id))/\s.TypeIs v T/\wpAny (model X.prog X.w) X.A (getItem v (.ref sl)) (EP X pins σ Q) X.xe s
def Ge (r:V->Option Int->Option Int->Hp->VK->Prop)(te:TE)(tl th:TO):TE:=fun σ H Q=>te σ H fun x H1=>tl σ H1 fun l H2=>th σ H2 fun u H3=>r x l u H3 Q
theorem Kk {r:V->Option Int->Option Int->Hp->VK->Prop}(hr:FZ X r)(he:PE X e te)(hl:PO X lo tl)(hu:PO X hi th):PE X (.Subscript e (.Slice lo hi none p2) pos) (Ge r te tl th):=by
 intro pins s σ H Q I h
 refine Subscript_ (aj (he pins s σ H _ I h) fun v s1 ⟨x,H1,I1,r1,q1⟩=>?_)
 refine wpAny_Slice (aj (hl pins s1 σ H1 _ I1 q1) fun vl s2 ⟨l,H2,I2,pl,q2⟩=>aj (hu pins s2 σ H2 _ I2 q2) fun vu s3 ⟨u,H3,I3,pu,q3⟩=>?_)
 rw [evalPart_none]
 refine wb ?_
 have I4:Inv X pins σ H3 { s3 with heap:=s3.heap.push { cls:=.type "slice",data:=.fields #[vl,vu,.none] } }:=I3.kept (t':=s3.toks) fun b ob q=>gc _ q
 obtain ⟨T,id,hT,ht,hg⟩:=hr pins { s3 with heap:=s3.heap.push { cls:=.type "slice",data:=.fields #[vl,vu,.none] } } σ H3 x v vl vu l u s3.heap.objs.size Q I4 r1 (Heap.IsSliceOf.new ..) pl pu q3
 show wpAny (model X.prog X.w) X.A (subscriptTail e (.Slice lo hi none p2) v (.ref s3.heap.objs.size)) (EP X pins σ Q) X.xe { s3 with heap:=s3.heap.push { cls:=.type "slice",data:=.fields #[vl,vu,.none] } }
 exact tail_any (ops:=[.ref s3.heap.objs.size,v]) ht hT hg (by with_unfolding_all rfl)
def sZ (xs:List V)(lo hi:Option Int):List V:=(xs.drop (HT.fV xs.length 0 lo)).take (HT.fV xs.length xs.length hi-HT.fV xs.length 0 lo)
theorem S3 (xs:List V)(lo hi:Option Int):(sZ xs lo hi).length<=xs.length:=by
 unfold sZ
 rw [DO,EO]
 omega
end
def iY (n:Nat)(i:Int):Option Nat:=if 0<=i then (if i<n then some i.toNat else none) else if -(n:Int)<=i then some (i+n).toNat else none
def cC {α:Type}(xs:List α)(i:Int):Option α:=(iY xs.length i).bind fun j=>xs[j]?
theorem wZ {n:Nat}{i:Int}{j:Nat}(h:iY n i=some j):seqIndex? i n=some j/\j<n /\ -(n:Int)<=i/\i<n:=by
 unfold iY at h
 by_cases h0 : 0<=i
 ·rw [Cn h0] at h
  by_cases h1:i<n
  ·rw [Cn h1] at h
   have e:i.toNat=j:=AE h
   exact ⟨by rw [seqIndex_of h0 h1,e],by omega,by omega,h1⟩
  ·rw [AM h1] at h;cases h
 ·rw [AM h0] at h
  by_cases h1 : -(n:Int)<=i
  ·rw [Cn h1] at h
   have e:(i+n).toNat=j:=AE h
   exact ⟨by rw [seqIndex_neg (by omega) h1,e],by omega,h1,by omega⟩
  ·rw [AM h1] at h;cases h
theorem DG {α:Type}{xs:List α}{i:Int}{v : α}(h:cC xs i=some v):∃ j,seqIndex? i xs.length=some j/\xs[j]?=some v/\j<xs.length /\ -(xs.length:Int)<=i/\i<xs.length:=by
 unfold cC at h
 cases e:iY xs.length i with
 |none=>rw [e] at h;cases h
 |some j =>
  rw [e] at h
  obtain ⟨h1,h2,h3,h4⟩:=wZ e
  exact ⟨j,h1,h,h2,h3,h4⟩
theorem gx {α:Type}{xs:List α}{j:Nat}{v : α}(h:xs[j]?=some v):cC xs (j:Int)=some v:=by
 have hj:j<xs.length:=(gz.mp h).1
 have e:iY xs.length (j:Int)=some j:=by
  unfold iY
  rw [Cn (by omega),Cn (by omega)];simp
 unfold cC;rw [e];exact h
def w8 (b:Expr):Prop:=∀ o i,subscripted b false o i=operate [o,i] (getItem o i)
def tO (X:Cx)(r:R2):Prop :=
 ∀ (value slice:Expr) (pins:List (Addr×Obj)) (s:Shared) (σ:St) (H:Hp) (x y:V) (v u:Value) (Q:VK),Inv X pins σ H s->RelV x v->RelV y u->r x y H Q ->
  subscripted slice false v u=operate [v,u] (getItem v u)->wpAny (model X.prog X.w) X.A (subscriptTail value slice v u) (EP X pins σ Q) X.xe s
def yz (X:Cx)(id:String)(r:V->List V->Hp->VK->Prop):Prop :=
 ∀ (pins:List (Addr×Obj)) (s:Shared) (σ:St) (H:Hp) (x:V) (xs:List V) (v:Value) (us:List Value) (Q:VK),Inv X pins σ H s->RelV x v->Vals xs us->r x xs H Q ->
  wpAny (model X.prog X.w) X.A (call (.builtin id) (v::us)) (EP X pins σ Q) X.xe s
section
variable {X:Cx}{a b:Expr}{ta tb:TE}{pos:Pos}
theorem qh {r:R2}(hr:tO X r)(ha:PE X a ta)(hb:PE X b tb)(hs:w8 b):PE X (.Subscript a b pos) (iX r ta tb):=by
 intro pins s σ H Q I h
 exact Subscript_ (Fb ha hb I h fun v u s2 x y H2 I2 rx ry q=>hr a b pins s2 σ H2 x y v u Q I2 rx ry q (hs _ _))
def qB (K:Frag):R2:=fun x y H Q=>∃ p xs i v,x=.ref p/\y=.int i/\aF K H p xs/\cC xs i=some v/\Q v H
def Fe (K:Frag):R2:=fun x y H Q=>∃ p xs i v,x=.ref p/\y=.int i/\eM K H p xs/\cC xs i=some v/\Q v H
def N5:R2:=fun x y H Q=>∃ z i c,x=.str z/\y=.int i/\z.length<=sizeLine/\cC z.cps.toList i=some c/\Q (.str ⟨#[c]⟩) H
theorem xf:tO X (qB X.K):=by
 intro value slice pins s σ H x y v u Q I rx ry h hs
 obtain ⟨p,xs,i,z,rfl,rfl,hq,he,q⟩:=h
 cases rx
 obtain ⟨t,rfl⟩:=ry
 obtain ⟨its,r,pl,hz⟩:=I.list hq
 obtain ⟨j,h1,h2,h3,h4,h5⟩:=DG he
 obtain ⟨w,ew,qS⟩:=r.get h2
 have hl:=r.length
 have hn:=sG
 have fin:EP X pins σ Q w s:=⟨z,H,I,qS,q⟩
 by_cases h0 : 0<=i
 ·have hj:i.toNat=j:=by
   rw [seqIndex_of h0 h5] at h1
   exact AE h1
  exact item_listR pl.isList h0 (by omega) (by rw [hj];simpa using ew) fin hs
 ·have hj:(i+(its.toArray.size:Int)).toNat=j:=by
   rw [seqIndex_neg (by omega) h4] at h1
   rw [i8,<- hl]
   exact AE h1
  exact subscriptTail_builtinR (x:=w) pl.isList.typeIs acI.lookup
   (wpAny_getItem_list_neg (Q:=fun r s'=>r=w/\EP X pins σ Q r s') pl.isList (by omega) (by rw [i8]<;>omega) (by omega) (by rw [hj];simpa using ew) ⟨rfl,fin⟩) hs
theorem WQ:tO X (Fe X.K):=by
 intro value slice pins s σ H x y v u Q I rx ry h hs
 obtain ⟨p,xs,i,z,rfl,rfl,hq,he,q⟩:=h
 cases rx
 obtain ⟨t,rfl⟩:=ry
 obtain ⟨its,r,pl,hz⟩:=I.tuple hq
 obtain ⟨j,h1,h2,h3,h4,h5⟩:=DG he
 obtain ⟨w,ew,qS⟩:=r.get h2
 have hl:=r.length
 have hn:=sG
 have fin:EP X pins σ Q w s:=⟨z,H,I,qS,q⟩
 exact subscriptTail_builtinR (x:=w) pl.typeIs slot_tuple_getitem.lookup
  (getItem_tuple (j:=j) (Q:=fun r s'=>r=w/\EP X pins σ Q r s') pl (by omega) (by omega) (by rw [i8,<- hl];exact h1) (by simpa using ew) ⟨rfl,fin⟩) hs
theorem WR:tO X N5:=by
 intro value slice pins s σ H x y v u Q I rx ry h hs
 obtain ⟨z,i,c,rfl,rfl,hz,he,q⟩:=h
 obtain ⟨t,rfl⟩:=rx
 obtain ⟨t',rfl⟩:=ry
 obtain ⟨j,h1,h2,h3,h4,h5⟩:=DG he
 have hl:z.cps.toList.length=z.length:=by simp [Str.length]
 rw [hl] at h1 h4 h5
 have hn:=sG
 exact tail_any (acs s z t) slot_str_getitem.lookup (getItem_str (c:=c) (by
  have e1:decide (i < -(2 ^ 63:Int))=false:=uu (by omega)
  have e2:decide (i >= 2 ^ 63)=false:=uu (by omega)
  rw [e1,e2,Bool.or_false]) (by rw [h1];simpa using h2) ⟨.str ⟨#[c]⟩,H,I.tok _,⟨_,rfl⟩,q⟩) hs
theorem Tn (its:List Value)(n j:Nat)(u:Value):Obj.mapSeq (·.setIfInBounds j u) { cls:=.type "list",data:=.seq its.toArray n }={ cls:=.type "list",data:=.seq (its.set j u).toArray n }:=by
 simp [Obj.mapSeq]
theorem Inv.lst {pins:List (Addr×Obj)}{σ:St}{H:Hp}{s:Shared}{p:Addr}{xs:List V}(I:Inv X pins σ H s)(h:H p=some (.lst xs)) :
  ∃ (its:List Value) (n:Nat),Vals xs its/\s.heap.get? p=some { cls:=.type "list",data:=.seq its.toArray n }/\xs.length<=sizeLine:=by
 obtain ⟨z,its,n,r,e⟩:=I.aq p _ h
 exact ⟨its,n,r,e,z⟩
theorem Inv.WT {pins:List (Addr×Obj)}{σ:St}{H:Hp}{s:Shared}{p:Addr}{xs ys:List V}{its its':List Value}{n n':Nat}{f:Obj->Obj}(I:Inv X pins σ H s)(h:H p=some (.lst xs))(ho:s.heap.get? p=some { cls:=.type "list",data:=.seq its.toArray n })(hf:f { cls:=.type "list",data:=.seq its.toArray n }={ cls:=.type "list",data:=.seq its'.toArray n' })(r:Vals ys its')(hz:ys.length<=sizeLine)(t:Nat) :
  Inv X pins σ (upd H p (.lst ys)) { s with heap:=s.heap.update p f,toks:=t }:=by
 have e:(s.heap.update p f).get? p=some { cls:=.type "list",data:=.seq its'.toArray n' }:=by
  rw [NL f ho (by rw [hf]<;>rfl),hf]
 refine I.write (x:=p) (e:=p) (by rw [h];trivial) (.inl rfl) (fun b u hb q=>(Ll _ _ (abc hb)).trans q) ⟨_,e⟩ ?_
 exact ⟨hz,its',n',r,e⟩
def xP:V->V->V->Hp->(Hp->Prop)->Prop:=fun o i v H Q=>∃ p xs k j,o=.ref p/\i=.int k/\H p=some (.lst xs)/\iY xs.length k=some j/\Q (upd H p (.lst (xs.set j v)))
theorem set_list:NZ X xP:=by
 intro pins s σ H o i v ov iv u Q I ro ri rv h
 obtain ⟨p,xs,k,j,rfl,rfl,hp,hj,q⟩:=h
 cases ro
 obtain ⟨t,rfl⟩:=ri
 obtain ⟨its,n,r,ho,hz⟩:=I.lst hp
 obtain ⟨h1,h2,h3,h4⟩:=wZ hj
 have hl:=r.length
 have hn:=sG
 have I':Inv X pins σ (upd H p (.lst (xs.set j v))) { s with heap:=s.heap.update p (Obj.mapSeq (·.setIfInBounds j u)) } :=
  I.WT hp ho (Tn its n j u) (r.set rv j) (by rw [EN];exact hz) s.toks
 by_cases h0 : 0<=k
 ·have hk:k.toNat=j:=by
   rw [seqIndex_of h0 h4] at h1
   exact AE h1
  exact PySem.W.ki_setAt ho h0 (by omega) (by rw [i8,<- hl];exact h4) (by rw [hk];exact ⟨_,I',q⟩)
 ·have hk:(k+(its.toArray.size:Int)).toNat=j:=by
   rw [seqIndex_neg (by omega) h3] at h1
   rw [i8,<- hl]
   exact AE h1
  exact PySem.W.ki_setBack ho (by omega) (by rw [i8,<- hl];exact h3) (by omega) (by rw [hk];exact ⟨_,I',q⟩)
theorem SD (lo hi:Option Int)(n:Nat):(sliceBounds lo hi none n).1=((HT.fV n 0 lo:Nat):Int)/\(sliceBounds lo hi none n).2.1=((HT.fV n n hi:Nat):Int)/\(sliceBounds lo hi none n).2.2=1:=by
 refine ⟨?_,?_,rfl⟩
 ·cases lo with
  |none=>simp [sliceBounds,HT.fV]
  |some i =>
   simp only [sliceBounds,HT.fV,acL,show (1:Int) > 0 by decide,acu]
   by_cases h:i<0
   ·simp only [h,acu]<;>omega
   ·simp only [h,acY]<;>omega
 ·cases hi with
  |none=>simp [sliceBounds,HT.fV]
  |some i =>
   simp only [sliceBounds,HT.fV,acL,show (1:Int) > 0 by decide,acu]
   by_cases h:i<0
   ·simp only [h,acu]<;>omega
   ·simp only [h,acY]<;>omega
theorem R9 (its:List Value)(lo hi:Option Int):slicePick its.toArray lo hi none=((its.drop (HT.fV its.length 0 lo)).take (HT.fV its.length its.length hi-HT.fV its.length 0 lo)).toArray:=by
 obtain ⟨h1,h2,h3⟩:=SD lo hi its.toArray.size
 unfold slicePick
 rw [h1,h2,h3]
 simp only [sliceRange_one,pick_run,i8]<;>rfl
def N6 (K:Frag):V->Option Int->Option Int->Hp->VK->Prop:=fun x lo hi H Q=>∃ a xs,x=.ref a/\aF K H a xs/\∀ p,H p=none->Q (.ref p) (upd H p (.lst (sZ xs lo hi)))
theorem VO:FZ X (N6 X.K):=by
 intro pins s σ H x v vl vu lo hi sl Q I rx hs pl pu h
 obtain ⟨a,xs,rfl,hx,q⟩:=h
 cases rx
 obtain ⟨its,r,ht,hz⟩:=I.list hx
 have hlen:=r.length
 refine ⟨"list",_,acI.lookup,ht.isList.typeIs,?_⟩
 refine wpAny_getItem_list_slice ht.isList hs pl pu .none (by simp) ?_ (by rw [i8]<;>omega)
 rw [R9,<- hlen]
 refine ⟨.ref s.heap.objs.size,_,I.laid (t':=s.toks) (o:=.lst (sZ xs lo hi)) (fun b ob q=>gc _ q) (ee _) ?_,rfl,q _ (I.aq.fresh (ee _))⟩
 exact ⟨EM (S3 xs lo hi) hz,_,0,(r.drop (HT.fV xs.length 0 lo)).take (HT.fV xs.length xs.length hi-HT.fV xs.length 0 lo),ze _ rfl⟩
def fA:V->Bool
 | .aN=>true
 | .bl _=>true
 | .int _=>true
 | .str _=>true
 |_=>false
def gT:V->V->Bool
 | .aN,.aN=>true
 | .bl a,.bl b=>a==b
 | .bl a,.int b=>(if a then 1 else 0)==b
 | .int a,.bl b=>a==(if b then 1 else 0)
 | .int a,.int b=>a==b
 | .str a,.str b=>a==b
 |_,_=>false
theorem Mo {A:Around}{s:Shared}{y x:V}{u v:Value}(ry:RelV y u)(rx:RelV x v)(fy:fA y=true)(fx:fA x=true):SeqAt.EqAt A s u v (gT y x):=by
 cases y with
 |aN =>
  cases ry
  cases x with
  |aN=>cases rx;exact SeqAt.EqAt.same _
  |bl b=>cases rx;exact SeqAt.EqAt.none_bool b
  |int b=>obtain ⟨t,rfl⟩:=rx;exact SeqAt.EqAt.none_int b t
  |str b=>obtain ⟨t,rfl⟩:=rx;exact SeqAt.EqAt.none_str b t
  |_=>exact absurd (show false=true from fx) AS
 |bl a =>
  cases ry
  cases x with
  |aN=>cases rx;exact SeqAt.EqAt.bool_none a
  |bl b=>cases rx;exact SeqAt.EqAt.bool_bool a b
  |int b=>obtain ⟨t,rfl⟩:=rx;exact SeqAt.EqAt.bool_int a b t
  |str b=>obtain ⟨t,rfl⟩:=rx;exact SeqAt.EqAt.bool_str a b t
  |_=>exact absurd (show false=true from fx) AS
 |int a =>
  obtain ⟨t',rfl⟩:=ry
  cases x with
  |aN=>cases rx;exact SeqAt.EqAt.int_none a t'
  |bl b=>cases rx;exact SeqAt.EqAt.int_bool a t' b
  |int b=>obtain ⟨t,rfl⟩:=rx;exact SeqAt.EqAt.int_int a t' b t
  |str b=>obtain ⟨t,rfl⟩:=rx;exact SeqAt.EqAt.int_str a t' b t
  |_=>exact absurd (show false=true from fx) AS
 |str a =>
  obtain ⟨t',rfl⟩:=ry
  cases x with
  |aN=>cases rx;exact SeqAt.EqAt.str_none a t'
  |bl b=>cases rx;exact SeqAt.EqAt.str_bool a t' b
  |int b=>obtain ⟨t,rfl⟩:=rx;exact SeqAt.EqAt.str_int a t' b t
  |str b=>obtain ⟨t,rfl⟩:=rx;exact SeqAt.EqAt.str_str a t' b t
  |_=>exact absurd (show false=true from fx) AS
 |_=>exact absurd (show false=true from fy) AS
def jr (x:V)(u:Value):Bool:=match u with
 | .none=>gT .aN x
 | .bool b=>gT (.bl b) x
 | .int i _=>gT (.int i) x
 | .str z _=>gT (.str z) x
 |_=>false
theorem D4 {x y:V}{u:Value}(r:RelV y u)(f:fA y=true):jr x u=gT y x:=by
 cases y with
 |aN=>cases r;rfl
 |bl b=>cases r;rfl
 |int i=>obtain ⟨t,rfl⟩:=r;rfl
 |str z=>obtain ⟨t,rfl⟩:=r;rfl
 |_=>exact absurd (show false=true from f) AS
theorem DH {x:V}:∀ {xs:List V} {us:List Value},Vals xs us->xs.all fA=true->us.any (jr x)=xs.any fun y=>gT y x
 |_,_,.nil,_=>rfl
 |y::xs,u::us,.cons r t,f=>by
  rw [Zl,DD] at f
  rw [acq,acq,D4 r f.1,DH t f.2]
theorem wI {A:Around}{s:Shared}{x:V}{v:Value}(rx:RelV x v)(fx:fA x=true):∀ {xs:List V} {us:List Value},Vals xs us->xs.all fA=true->∀ u ∈ us,SeqAt.EqAt A s u v (jr x u)
 |_,_,.nil,_=>fun u hu=>by cases hu
 |y::xs,u::us,.cons r t,f=>fun u' hu=>by
  rw [Zl,DD] at f
  rcases gr.mp hu with rfl | hu
  ·rw [D4 r f.1];exact Mo r rx f.1 fx
  ·exact wI rx fx t f.2 u' hu
def yA (x:V)(xs:List V):Bool:=xs.any fun y=>gT y x
def yB (K:Frag)(neg:Bool):R2:=fun x y H Q=>∃ p xs,y=.ref p/\(aF K H p xs\/eM K H p xs)/\fA x=true/\xs.all fA=true/\Q (.bl (if neg then !yA x xs else yA x xs)) H
theorem Jt:dv X (compareOp .NotIn) (yB X.K true):=by
 intro pins s σ H x y v u Q I rx ry h
 obtain ⟨p,xs,rfl,hq,fx,fs,q⟩:=h
 cases ry
 rcases hq with hq | hq
 ·obtain ⟨its,r,pl,hz⟩:=I.list hq
  refine SeqAt.notIn_listAt (jr x) pl.isList (fun w hw=>wI rx fx r fs w (by simpa using hw)) ⟨.bl _,H,I,rfl,?_⟩
  rw [show its.toArray.any (jr x)=its.any (jr x) by simp,DH r fs]
  exact q
 ·obtain ⟨its,r,pl,hz⟩:=I.tuple hq
  refine SeqAt.notIn_tupleAt (jr x) pl (fun w hw=>wI rx fx r fs w (by simpa using hw)) ⟨.bl _,H,I,rfl,?_⟩
  rw [show its.toArray.any (jr x)=its.any (jr x) by simp,DH r fs]
  exact q
theorem SE:fm X (.builtin "len") (fun xs H Q=>∃ p ys,xs=[.ref p]/\(aF X.K H p ys\/eM X.K H p ys)/\Q (.int ys.length) H):=by
 intro pins s σ H xs us Q I r h
 obtain ⟨p,ys,rfl,hq,q⟩:=h
 obtain ⟨u,rfl,rx⟩:=vals1 r
 cases rx
 have hn:=sG
 rcases hq with hq | hq
 ·obtain ⟨its,r',pl,hz⟩:=I.list hq
  have hlen:=r'.length
  exact Calls.call_len_list pl.isList (by simp only [i8]<;>omega) ⟨.int ys.length,H,I.tok _,⟨s.toks+1,by rw [i8,hlen]⟩,q⟩
 ·obtain ⟨its,r',pl,hz⟩:=I.tuple hq
  have hlen:=r'.length
  exact len_tuple pl (by simp only [i8]<;>omega) ⟨.int ys.length,H,I.tok _,⟨s.toks+1,by rw [i8,hlen]⟩,q⟩
theorem SH:fm X (.builtin "len") (fun xs H Q=>∃ z,xs=[.str z]/\z.length<=sizeLine/\Q (.int z.length) H):=by
 intro pins s σ H xs us Q I r h
 obtain ⟨z,rfl,hz,q⟩:=h
 obtain ⟨u,rfl,t,rfl⟩:=vals1 r
 have hn:=sG
 exact len_str (by omega) ⟨.int z.length,H,I.tok _,⟨_,rfl⟩,q⟩
theorem SJ:fm X (.type "list") (fun xs H Q=>∃ p ys,xs=[.ref p]/\(aF X.K H p ys\/eM X.K H p ys)/\∀ l,H l=none->Q (.ref l) (upd H l (.lst ys))):=by
 intro pins s σ H xs us Q I r h
 obtain ⟨p,ys,rfl,hq,q⟩:=h
 obtain ⟨u,rfl,rx⟩:=vals1 r
 cases rx
 have fin:∀ (its:List Value),Vals ys its->ys.length<=sizeLine->∀ (h':Heap) (c':Nat),(∀ b o',s.heap.get? b=some o'->h'.get? b=some o') ->
   h'.get? s.heap.objs.size=some { cls:=.type "list",dict:=none,data:=.seq its.toArray c',slots:=#[] }->EP X pins σ Q (.ref s.heap.objs.size) { s with heap:=h' }:=fun its r' hz h' c' kp e =>
  ⟨.ref s.heap.objs.size,_,I.laid (t':=s.toks) kp (ee _) (show dD X.prog X.w _ h' _ (.lst ys) from ⟨hz,its,c',r',e⟩),rfl,q _ (I.aq.fresh (ee _))⟩
 rcases hq with hq | hq
 ·obtain ⟨its,r',pl,hz⟩:=I.list hq
  have hlen:=r'.length
  obtain ⟨o,ho,hc,n,hd⟩:=pl.isList
  exact call_list_seq p (.inl rfl) ho hc hd (fun h' c' kp e=>fin its r' hz h' c' kp e) (by simp only [i8]<;>omega)
 ·obtain ⟨its,r',pl,hz⟩:=I.tuple hq
  have hlen:=r'.length
  obtain ⟨o,ho,hc,n,hd⟩:=pl
  exact call_list_seq p (.inr rfl) ho hc hd (fun h' c' kp e=>fin its r' hz h' c' kp e) (by simp only [i8]<;>omega)
def Gf (K:Frag)(T:String)(x:V)(H:Hp):Prop:=match x with
 | .str _=>T = "str"
 | .int _=>T = "int"
 | .ref p=>(T = "list" /\ ∃ xs,aF K H p xs)\/(T = "tuple" /\ ∃ o,K.lookup p=some o/\o.cls=.type "tuple" /\ o.dict=none) \/
   (T = "dict" /\ ((∃ dH,H p=some (.dK dH))\/∃ dH,H p=some (.dT dH)))\/(T = "set" /\ ∃ S n,H p=some (.set S n))
 |_=>False
theorem D5 {pins:List (Addr×Obj)}{σ:St}{H:Hp}{s:Shared}{T:String}{x:V}{v:Value}(I:Inv X pins σ H s)(r:RelV x v)(ty:Gf X.K T x H) :
  s.TypeIs v T/\∀ a,v=.ref a->∃ ob,s.heap.get? a=some ob/\ob.dict=none:=by
 cases x with
 |str z =>
  obtain ⟨t,rfl⟩:=r
  cases (show T = "str" from ty)
  exact ⟨acs s z t,fun _ e=>nomatch e⟩
 |int i =>
  obtain ⟨t,rfl⟩:=r
  cases (show T = "int" from ty)
  exact ⟨typeIs_int s i t,fun _ e=>nomatch e⟩
 |ref p =>
  cases r
  rcases ty with ⟨rfl,xs,hq⟩ | ⟨rfl,o,hk,hc,hd⟩ | ⟨rfl,hk⟩ | ⟨rfl,S,n,hk⟩
  ·obtain ⟨its,_,pl,_⟩:=I.list hq
   refine ⟨pl.isList.typeIs,fun a e=>?_⟩
   cases e
   obtain ⟨o,n,e,c,hd,_⟩:=pl
   exact ⟨o,e,hd⟩
  ·refine ⟨⟨o,I.cB p o hk,hc⟩,fun a e=>?_⟩
   cases e
   exact ⟨o,I.cB _ o hk,hd⟩
  ·have z:∃ o,s.heap.get? p=some o/\o.ExactDict:=by
    rcases hk with ⟨dH,hk⟩ | ⟨dH,hk⟩
    ·obtain ⟨_,_,_,_,o,_,_,e,ex,_⟩:=I.aq p _ hk
     exact ⟨o,e,ex⟩
    ·obtain ⟨_,_,_,_,o,_,_,e,ex,_⟩:=I.aq p _ hk
     exact ⟨o,e,ex⟩
   obtain ⟨o,e,ex⟩:=z
   refine ⟨⟨o,e,ex.1⟩,fun a e2=>?_⟩
   cases e2
   exact ⟨o,e,ex.2.1⟩
  ·obtain ⟨o,_,_,_,e,ex,_⟩:=I.aq p _ hk
   refine ⟨⟨o,e,ex.1⟩,fun a e2=>?_⟩
   cases e2
   exact ⟨o,e,ex.2.1⟩
 |_=>exact False.elim ty
def Ff (K:Frag)(T:String)(r:V->List V->Hp->VK->Prop)(to:TE):TE:=fun σ H Q=>to σ H fun x H1=>Gf K T x H1/\r x [] H1 Q
def eO (K:Frag)(T:String)(r:V->List V->Hp->VK->Prop)(to:TE)(t:TA):TE:=fun σ H Q=>to σ H fun x H1=>Gf K T x H1/\t σ H1 fun xs H2=>r x xs H2 Q
variable {o e:Expr}{es:List Expr}{to:TE}{t:TA}{name:Str}{apos cY:Pos}{T id:String}{r:V->List V->Hp->VK->Prop}
theorem Mp (pa:PlainAttrs T)(slot:Slot T name id)(qT:typeOf (.builtin id)=pure (.type "method_descriptor"))(hm:yz X id r)(ho:PE X o to)(d8:attributeBase o name X.env (eval o X.env)=eval o X.env:=by rfl)(hline:(apos.endLine==cY.line)=true:=by rfl):PE X (.Call (.Attribute o name apos) [] [] cY) (Ff X.K T r to):=by
 intro pins s σ H Q I h
 refine wpAny_Call_method0_late d8 hline (aj (ho pins s σ H _ I h) fun v s1 ⟨x,H1,I1,r1,ty,q1⟩=>?_)
 obtain ⟨h1,h2⟩:=D5 I1 r1 ty
 exact ⟨T,id,pa,slot,qT,h1,h2,ab3 rfl (PySem.evalArgs_none (hm pins s1 σ H1 x [] v [] Q I1 r1 .nil q1))⟩
theorem gK (pa:PlainAttrs T)(slot:Slot T name id)(qT:typeOf (.builtin id)=pure (.type "method_descriptor"))(hm:yz X id r)(ho:PE X o to)(ha:PA X (e::es) t)(d8:attributeBase o name X.env (eval o X.env)=eval o X.env:=by rfl)(fS:((backTo cY (starEach (e::es) X.env)).all (fun x=>!x.1)&&(backToKw cY (keywordEach [] X.env)).all (fun x=>x.1.isSome)
   && decide ((e::es).length+([]:List Keyword).length+(if ([]:List Keyword).isEmpty then 0 else 1)<30))=true:=by rfl)(hline:(apos.endLine==cY.line)=true:=by rfl)(hs:starEach (e::es) X.env=(false,eval e X.env)::starEach es X.env:=by rfl)(u9:(backTo cY (starEach es X.env)).any (·.1)=false:=by rfl) :
  PE X (.Call (.Attribute o name apos) (e::es) [] cY) (eO X.K T r to t):=by
 intro pins s σ H Q I h
 refine wpAny_Call_method_late d8 fS hline rfl (aj (ho pins s σ H _ I h) fun v s1 ⟨x,H1,I1,r1,ty,q1⟩=>?_)
 obtain ⟨h1,h2⟩:=D5 I1 r1 ty
 refine ⟨T,id,pa,slot,qT,h1,h2,?_⟩
 have hA:=ha cY pins s1 σ H1 _ I1 q1
 rw [hs] at hA ⊢
 refine ab3 (by show (false || (backTo cY (starEach es X.env)).any (·.1))=false;rw [u9]<;>rfl) (abz ?_)
 exact aj hA fun us s2 ⟨vs,H2,I2,r2,q2⟩=>hm pins s2 σ H2 x vs v us Q I2 r1 r2 q2
end
def nu (X:Cx)(id:String)(r:V->List V->Hp->VK->Prop):Prop :=
 ∀ (pins:List (Addr×Obj)) (s:Shared) (σ:St) (H:Hp) (x:V) (xs:List V) (v:Value) (us:List Value) (Q:VK),Inv X pins σ H s->RelV x v->Vals xs us->r x xs H Q ->
  wpAny (model X.prog X.w) X.A (call (.builtin id) (v::us)) (EP X pins σ Q) X.xe s
theorem Vals.one:∀ {x:V} {us:List Value},Vals [x] us->∃ u,us=[u]/\RelV x u
 |_,_,.cons r .nil=>⟨_,rfl,r⟩
theorem Vals.two:∀ {x y:V} {us:List Value},Vals [x,y] us->∃ u v,us=[u,v]/\RelV x u/\RelV y v
 |_,_,_,.cons r (.cons q .nil)=>⟨_,_,rfl,r,q⟩
theorem Vals.zero:∀ {us:List Value},Vals [] us->us=[]
 |_,.nil=>rfl
theorem Vals.eraseIdx:∀ {xs:List V} {us:List Value} (i:Nat),Vals xs us->Vals (xs.eraseIdx i) (us.eraseIdx i)
 |_,_,_,.nil=>.nil
 |_,_,0,.cons _ t=>t
 |_,_,i+1,.cons r t=>.cons r (Vals.eraseIdx i t)
theorem JU {α:Type}:∀ (l:List α) (i:Nat),(l.eraseIdx i).length<=l.length
 |[],_=>ee _
 |_::_,0=>Mn _
 |_::r,i+1=>acM (JU r i)
section
variable {X:Cx}{pins:List (Addr×Obj)}{σ:St}{H:Hp}{s:Shared}{l b:Addr}{xs ys zs:List V}
theorem Inv.vA {its its':List Value}{n:Nat}{f:Array Value->Array Value}{t':Nat}(I:Inv X pins σ H s)(hH:H l=some (.lst xs))(e:s.heap.get? l=some { cls:=.type "list",data:=.seq its.toArray n })(hf:f its.toArray=its'.toArray)(hv:Vals ys its')(hz:ys.length<=sizeLine) :
  Inv X pins σ (upd H l (.lst ys)) { s with heap:=s.heap.update l (Obj.mapSeq f),toks:=t' }:=by
 have q:=PySem.IsL.update e f
 rw [hf] at q
 refine I.write (x:=l) (e:=l) (by rw [hH];exact trivial) (.inl rfl) (fun b' u hb hu=>(Ll s.heap (Obj.mapSeq f) (abc hb)).trans hu) ⟨_,q⟩ ?_
 exact ⟨hz,its',_,hv,q⟩
theorem Inv.vB {its:List Value}{t':Nat}(I:Inv X pins σ H s)(hv:Vals ys its)(hz:ys.length<=sizeLine) :
  Inv X pins σ (upd H s.heap.objs.size (.lst ys)) { s with heap:=s.heap.push { cls:=.type "list",data:=.seq its.toArray },toks:=t' } :=
 I.laid (fun _ _ q=>gc _ q) (ee _) ⟨hz,its,0,hv,ze _ rfl⟩
theorem Inv.fresh (I:Inv X pins σ H s):H s.heap.objs.size=none:=I.aq.fresh (ee _)
theorem Inv.td (I:Inv X pins σ H s)(hH:H l=some (.lst xs)):xs.length<=sizeLine/\∃ (its:List Value) (n:Nat),Vals xs its/\xs.length=its.length/\s.heap.get? l=some { cls:=.type "list",data:=.seq its.toArray n }:=by
 obtain ⟨z,its,n,r,e⟩:=I.aq l _ hH
 exact ⟨z,its,n,r,r.length,e⟩
theorem UR {n:Nat}(h:n<=sizeLine):Builtin.List.listTooLong n=false:=by
 unfold Builtin.List.listTooLong
 exact uu (by omega)
end
section
variable {X:Cx}
def lC:V->List V->Hp->VK->Prop:=fun x vs H Q=>∃ l xs y,x=.ref l/\vs=[y]/\H l=some (.lst xs)/\xs.length<sizeLine/\Q .aN (upd H l (.lst (xs++[y])))
theorem kf:nu X "list.append" lC:=by
 intro pins s σ H x vs v us Q I rx rv h
 obtain ⟨l,xs,y,rfl,rfl,hH,hz,q⟩:=h
 cases rx
 obtain ⟨u,rfl,ru⟩:=rv.one
 obtain ⟨z,its,n,r,hl,e⟩:=I.td hH
 refine abI F.slot_list_append ⟨_,e,rfl⟩ F.entry_list_append (F.args_list_append_2 _ _) (PySem.list_append l its.toArray n u (by rw [i8];omega)) ⟨e,?_⟩
 refine ⟨.aN,_,I.vA (its':=its++[u]) hH e (by simp) (r.append (.cons ru .nil)) ?_,rfl,q⟩
 rw [ir,ach]
 omega
def nV:V->List V->Hp->VK->Prop:=fun x vs H Q=>∃ l b xs zs,x=.ref l/\vs=[.ref b]/\H l=some (.lst xs)/\H b=some (.lst zs)/\xs.length+zs.length<=sizeLine/\Q .aN (upd H l (.lst (xs++zs)))
theorem uw:nu X "list.extend" nV:=by
 intro pins s σ H x vs v us Q I rx rv h
 obtain ⟨l,b,xs,zs,rfl,rfl,hH,hB,hz,q⟩:=h
 cases rx
 obtain ⟨u,rfl,ru⟩:=rv.one
 cases ru
 obtain ⟨z,its,n,r,hl,e⟩:=I.td hH
 obtain ⟨z2,iB,n2,r2,Gg,e2⟩:=I.td hB
 have lU:its.toArray.size+iB.toArray.size<=sizeLine:=by rw [i8,i8];omega
 have XX:¬ (!its.toArray.isEmpty&&Builtin.List.listTooLong (its.toArray.size+iB.toArray.size))=true:=by
  rw [UR lU,aab]
  exact AS
 refine abI F.slot_list_extend ⟨_,e,rfl⟩ F.entry_list_extend (F.args_list_extend_2 _ _)
  (AutoSeq1.list_extend_list_list_0 l its.toArray n b iB.toArray n2 XX (by rw [i8];omega) (by omega)) ⟨e,e2,?_⟩
 refine ⟨.aN,_,I.vA (its':=its++iB) hH e (by simp) (r.append r2) ?_,rfl,q⟩
 rw [ir]
 omega
def Mq:V->List V->Hp->VK->Prop:=fun x vs H Q=>∃ l xs i k y,x=.ref l/\vs=[.int i]/\H l=some (.lst xs) /\ -(2 ^ 63)<=i/\i<2 ^ 63/\seqIndex? i xs.length=some k/\xs[k]?=some y/\Q y (upd H l (.lst (xs.eraseIdx k)))
theorem UT:nu X "list.pop" Mq:=by
 intro pins s σ H x vs v us Q I rx rv h
 obtain ⟨l,xs,i,k,y,rfl,rfl,hH,h1,h2,hk,hy,q⟩:=h
 cases rx
 obtain ⟨u,rfl,ru⟩:=rv.one
 obtain ⟨t,rfl⟩:=ru
 obtain ⟨z,its,n,r,hl,e⟩:=I.td hH
 obtain ⟨w,hw,qS⟩:=r.get hy
 refine abI F.slot_list_pop ⟨_,e,rfl⟩ F.entry_list_pop (F.args_list_pop_2 _ _)
  (MeetsSeq.list_pop_at l its.toArray n i t k w (fitsIndex_both h1 h2) (by rw [i8,<- hl];exact hk) (by rw [<- aci];exact hw) (by rw [i8];omega)) ⟨e,?_⟩
 refine ⟨y,_,I.vA (its':=its.eraseIdx k) hH e ?_ (r.eraseIdx k) ?_,qS,q⟩
 ·show its.toArray.eraseIdxIfInBounds k=(its.eraseIdx k).toArray
  rw [List.eraseIdxIfInBounds_toArray]
 ·have:=JU xs k
  omega
def D6:V->List V->Hp->VK->Prop:=fun x vs H Q=>∃ l xs,x=.ref l/\vs=[]/\H l=some (.lst xs)/\Q .aN (upd H l (.lst []))
theorem Kl:nu X "list.clear" D6:=by
 intro pins s σ H x vs v us Q I rx rv h
 obtain ⟨l,xs,rfl,rfl,hH,q⟩:=h
 cases rx
 have hus:=rv.zero
 subst hus
 obtain ⟨z,its,n,r,hl,e⟩:=I.td hH
 refine abI F.slot_list_clear ⟨_,e,rfl⟩ F.entry_list_clear (F.args_list_clear_1 _) (AutoSeq1.list_clear_list_0 l its.toArray n (by rw [i8];omega)) ⟨e,?_⟩
 exact ⟨.aN,_,I.vA (its':=[]) (ys:=[]) hH e rfl .nil (Cs _),rfl,q⟩
end
end L2
namespace P1
open PySem PySem.W PySem.Calls PyProof.Rows
theorem RT {P:Params}{h:Heap}:∀ (ns:LI) (vs:List Value),WellAll P h vs (ns.map WData.int)->IntsAre vs ns:=by
 intro ns
 induction ns with
 |nil =>
  intro vs w
  rw [List.map_nil] at w
  cases w
  exact .nil
 |cons n ns ih =>
  intro vs w
  rw [ES] at w
  cases w with
  |cons a b =>
   cases a
   exact .cons _ _ (ih _ b)
theorem Ub {l:OpenLaw}{n:Nat}(hn:l.most=some n){P:Params}{h:Heap}{args:List WData}{vals:List Value}(yg:l.row.toRowW.claim.pre args=true)(Gh:WellAll P h vals args) :
  ∃ a vs ns,vals=[Value.ref a]/\args=[WData.list (ns.map WData.int)]/\h.get? a=some { cls:=.type "list",data:=.seq vs.toArray }/\IntsAre vs ns/\ns.length<=n:=by
 have hsh:WShape.hasAll [] args [.list .int]=true:=(pre_splitW yg).1
 have hc:l.pre.holds [] { args:=args }=true:=(pre_splitW yg).2
 obtain ⟨d,r,rfl,h1,h2⟩:=hasAllW_cons hsh
 obtain rfl:=hasAllW_nil h2
 obtain ⟨xs,rfl,h3⟩:=hasW_list h1
 obtain ⟨ns,rfl⟩:=items_int h3
 have hlen:ns.length<=n:=by
  unfold OpenLaw.pre at hc
  have h4:(WTm.not (.lt (.lit (.int (n:Int))) (.len (.arg 0)))).holds [] { args:=[.list (ns.map .int)] }=true:=by
   have h4:=(holds_andW hc).1
   rw [hn] at h4
   exact h4
  have h5:=condW_of h4 (w_not (w_lt w_lit (w_len_list (w_arg rfl))))
  rw [aa] at h5
  refine Nat.le_of_not_lt fun q=>?_
  have q':(n:Int)<((ns.length:Nat):Int):=by omega
  first
   |(rw [zw q'] at h5;exact absurd h5 (by decide))
   |(simp at h5;omega)
 cases Gh with
 |cons w1 w2 =>
  cases w2
  cases w1 with
  |list ho Yx=>exact ⟨_,_,ns,rfl,rfl,ho,RT ns _ Yx,hlen⟩
theorem Uc (l:OpenLaw)(args:List WData):l.row.toRowW.claim.post args (.bool true) args=true :=
 postW_of (r:=l.row.toRowW) (X:=(true==true))
  (show WShape.has [] (.bool true) .bool=true by first | rfl | decide | simp [WShape.has,WShape.arms,WShape.armsAll])
  (show (WTm.eq .res (.lit (.bool true))).value [] { args:=args,res:=some (.bool true),after:=args }=some (.bool (true==true)) from w_eq_bool (w_res rfl) w_lit) rfl
theorem S4 {l:OpenLaw}{n:Nat}{q:Program}{loose:List Str}{XP:(Str->Option Value)->Heap->Prop}{YP:World->Heap->Prop}{d:DefRec}(hn:l.most=some n)(vR:d.params.defaults=[])(call:∀ (w:World) (bW bf:Shared) (mg mb:Str->Option Value) (fa:Addr) (o:Obj) (pm cd doc:Value) (a:Addr) (vs:List Value) (ns:LI),
   Ground q loose [] XP w bW mg mb bf.heap->YP w bf.heap ->
   bf.heap.get? fa=some o->o.data=.func (docDef d.name d.params d.body d.scope pm cd doc)->bf.heap.CodeRec cd d.name->mg d.name=some (.ref fa) ->
   bf.heap.get? a=some { cls:=.type "list",data:=.seq vs.toArray }->IntsAre vs ns->ns.length<=n->bf.gens=#[] ->
   codeAny (model l.prog w) callerA (.call (.ref fa) ⟨[.ref a],[]⟩) (fun r s'=>r=.ok (.ret (.bool true))/\OldK bf.heap s'.heap/\s'.os=bf.os/\AllBare s'.gens) bf) :
  WalkO q loose XP YP l.row.toRowW d [] (fun f vs=>PySem.call f vs):=by
 intro w bW bf mg mb G Y fa o pm cd doc dV kV ho hd ie hD vS hg args vals as yg abl hrd Gh P2
 obtain rfl:dV=.none:=Dflts.none hD vR
 obtain rfl:kV=.none:=Dflts.noKw hD
 obtain ⟨a,vs,ns,rfl,rfl,Fh,hints,hlen⟩:=Ub hn yg Gh
 refine enter_call (YE (call w bW bf mg mb fa o pm cd doc a vs ns G Y ho (fd_plain hd) ie vS Fh hints hlen hg) fun r s' hq=>?_)
 obtain ⟨rfl,h2,h3,h4⟩:=hq
 exact ⟨.inl ⟨.bool true,.bool true,[],rfl,fun _=>rfl,.bool true,Uc l _,fun _=>⟨List.Pairwise.nil,fun _ hm=>(nomatch hm)⟩⟩,h2,h3,h4⟩
end P1
namespace L2
open PySem PySem.Spec PyProof.Rows
theorem JV:∀ {vs:List Value} {ns:LI},IntsAre vs ns->Vals (ns.map V.int) vs
 |_,_,.nil=>.nil
 |_,_,.cons n t h=>.cons ⟨t,rfl⟩ (JV h)
def Fi (H:Hp):Prop:=∀ b,H b=none\/∃ o xs,H b=some (.dt o (.lst xs))
theorem UU {P:Program}{w:World}{K:Frag}{mg mb:Str->Option Value}{CX:fU}{k:Nat}{fa a:Addr}{fd:FuncData}{x:Str}{sp:Sp}{bf:Shared}{vs:List Value}{ns:LI}(KX:K.In bf.heap)(ig:bf.heap.Ns mainGlobals mg)(hb:bf.heap.Ns builtinsNs mb)(hbb:∀ x:Str,x ≠ "__name__" -> mb x=bootBuiltins x)(Yy:bf.heap.NoLimit)(hg:bf.gens=#[])(ha:bf.heap.get? a=some { cls:=.type "list",data:=.seq vs.toArray })(hi:IntsAre vs ns)(hl:ns.length<=sizeLine)(hr:dk k callerA)(F:∀ base:Heap,K.In base->base.Ns mainGlobals mg->bc P w K mg base CX k fa fd [x] sp)(XY:∀ (s:Shared) (u:Value),BindsTo s fd ⟨[u],[]⟩ [(x,u)])(jq:∀ H:Hp,Fi H->aF K H a (ns.map V.int)->sp [.ref a] H (fun v _=>v=.bl true) fun _ _ _=>False)(Gi:∀ H e s',CX [] H bf (fun _ _ _=>False) e s'->False) :
  codeAny (model P w) callerA (.call (.ref fa) ⟨[.ref a],[]⟩) (fun r s'=>r=.ok (.ret (.bool true))/\OldK bf.heap s'.heap/\s'.os=bf.os/\AllBare s'.gens) bf:=by
 have rv:=JV hi
 have Yz:=hi.length
 have core:∀ H:Hp,Fi H->aF K H a (ns.map V.int)->cV P w H bf.heap->(∀ b,H b ≠ none->b=a)->(H a ≠ none->K.lookup a=none) ->
   codeAny (model P w) callerA (.call (.ref fa) ⟨[.ref a],[]⟩) (fun r s'=>r=.ok (.ret (.bool true))/\OldK bf.heap s'.heap/\s'.os=bf.os/\AllBare s'.gens) bf:=by
  intro H hO hS aq hA hK
  have Lk:∀ {b:Addr} {o:Obj},bf.heap.get? b=some o->H b=none->(m4 bf.heap H).get? b=some o:=fun e n=>UP e n
  have vQ:∀ {b:Addr} {o:Obj} {es:Array DictEntry} {ep:Nat},bf.heap.get? b=some o->o.data=.dict es ep->H b=none:=fun {b o es ep} e d=>by
   cases q:H b with
   |none=>rfl
   |some u =>
    have e':b=a:=hA b (by rw [q];simp)
    subst e'
    rw [ha] at e;cases e
    have d':Data.seq vs.toArray _=Data.dict es ep:=d
    cases d'
  have yC:∀ {b:Addr} {m:Str->Option Value},bf.heap.Ns b m->(m4 bf.heap H).Ns b m:=fun {b m} ⟨o,es,ep,e,d,r⟩=>⟨o,es,ep,Lk e (vQ e d),d,r⟩
  have P4:K.In (m4 bf.heap H):=fun b o e=>Lk (KX b o e) (by
   cases q:H b with
   |none=>rfl
   |some u =>
    have e':b=a:=hA b (by rw [q];simp)
    subst e'
    rw [hK (by rw [q];simp)] at e;cases e)
  have hM:Mod K mg (m4 bf.heap H):=⟨P4,yC ig,⟨mb,yC hb,hbb⟩,let ⟨mc,h1,h2⟩:=Yy;⟨mc,yC h1,h2⟩⟩
  have e0:m9 P w K mg (m4 bf.heap H) callerA [] bf H:=⟨rfl,hM,fun b o e=>VE e,Nat.le_of_eq (TY _ _),trivial,fun b hb=>absurd (show b ∈ ([]:List Addr) from hb) (by simp),aq,.of_eq hg⟩
  refine YE ((F _ P4 (yC ig)).run callerA [] bf H ⟨[.ref a],[]⟩ [.ref a] [.ref a] _ _ hr e0 (XY bf (.ref a)) (.cons rfl .nil) (jq H hO hS)) fun r s' h=>?_
  cases r with
  |error e=>exact (Gi H e s' h).elim
  |ok fl =>
   cases fl with
   |next=>exact False.elim h
   |brk=>exact False.elim h
   |cont=>exact False.elim h
   |ret u =>
    obtain ⟨v,H',os,bare,un,YB,r',q⟩:=h
    have q':v=.bl true:=q
    subst q'
    obtain rfl:u=Value.bool true:=r'
    refine ⟨rfl,OldK.of_keep fun b o e=>?_,os,bare⟩
    cases q:H b with
    |none=>exact un.keep b o e q (by intro z;exact absurd (show b ∈ ([]:List Addr) from z) (by simp)) (by simp)
    |some u =>
     rcases hO b with z | ⟨ob,xs,z⟩
     ·rw [q] at z;cases z
     ·have z2:=un.dF b ob _ z
      obtain ⟨e1,_⟩:=aq b _ z
      obtain ⟨e2,_⟩:=YB b _ z2
      rw [e] at e1;cases e1
      exact e2
 cases hk:K.lookup a with
 |some o =>
  have e:=KX a o hk
  rw [ha] at e
  cases e
  refine core (fun _=>none) (fun _=>.inl rfl) (.inr ⟨_,vs.toArray,_,hk,rfl,rfl,rfl,by rw [i8,Yz];exact hl,by simpa using rv⟩) (fun b u z=>by have z':(none:Option HO)=some u:=z;cases z') (fun b z=>absurd rfl z) fun z=>absurd rfl z
 |none =>
  refine core (fun b=>if b=a then some (.dt { cls:=.type "list",data:=.seq vs.toArray } (.lst (ns.map V.int))) else none) (fun b=>?_) (.inl (.inr ⟨{ cls:=.type "list",data:=.seq vs.toArray },Cn rfl⟩)) (fun b u z=>?_) (fun b z=>?_) fun _=>hk
  ·by_cases hb:b=a
   ·exact .inr ⟨_,_,Cn hb⟩
   ·exact .inl (AM hb)
  ·by_cases hb:b=a
   ·have z':=(Cn hb).symm.trans z
    cases z'
    subst hb
    exact ⟨ha,by rw [aa];exact hl,vs,_,rv,ha⟩
   ·have z':=(AM hb).symm.trans z
    cases z'
  ·by_cases hb:b=a
   ·exact hb
   ·exact absurd (AM hb) z
theorem VP {l:PySem.W.OpenLaw}{n k:Nat}{q:Program}{loose:List Str}{XP:(Str->Option Value)->Heap->Prop}{YP:World->Heap->Prop}{d:DefRec}{K:Params->Frag}{CX:World->fU}{sp:World->Sp}{x:Str}(hn:l.most=some n)(hn2:n<=sizeLine)(vR:d.params.defaults=[])(hr:dk k callerA)(hY:∀ (w:World) (h:Heap),YP w h->(K w.params).In h)(F:∀ (w:World) (mg:Str->Option Value) (fa:Addr) (h:Heap),(K w.params).In h->h.Ns mainGlobals mg->mg d.name=some (.ref fa) ->
   ∃ fd:FuncData,(∀ (s:Shared) (u:Value),BindsTo s fd ⟨[u],[]⟩ [(x,u)]) /\
    ∀ base:Heap,(K w.params).In base->base.Ns mainGlobals mg->bc l.prog w (K w.params) mg base (CX w) k fa fd [x] (sp w))(jq:∀ (w:World) (H:Hp) (a:Addr) (ns:LI),ns.length<=n->Fi H->aF (K w.params) H a (ns.map V.int)->sp w [.ref a] H (fun v _=>v=.bl true) fun _ _ _=>False)(Gi:∀ (w:World) (H:Hp) (s:Shared) (e:Value) (s':Shared),CX w [] H s (fun _ _ _=>False) e s'->False) :
  PySem.W.WalkO q loose XP YP l.row.toRowW d [] (fun f vs=>PySem.call f vs):=by
 refine P1.S4 hn vR fun w bW bf mg mb fa o pm cd doc a vs ns G Y ho hd ie vS Fh hints hlen hg=>?_
 have KX:=hY w _ Y
 obtain ⟨fd,hb,hF⟩:=F w mg fa _ KX G.T.g vS
 exact UU KX G.T.g G.T.b G.T.builtins G.T.nolimit hg Fh hints (EM hlen hn2) hr hF hb (fun H hO hS=>jq w H a ns hlen hO hS) fun H e s'=>Gi w H bf e s'
def cJ (s:Stmt):Arguments:=match s with
 | .FunctionDef _ a _ _ _ _ _ _ _ _=>a
 |_=>{ posonlyargs:=[],args:=[],vararg:=none,kwonlyargs:=[],kw_defaults:=[],kwarg:=none,defaults:=[] }
def bR (s:Stmt):List Stmt:=match s with
 | .FunctionDef _ _ b _ _ _ _ _ _ _=>b
 |_=>[]
def aD (s:Stmt):Scope:=match s with
 | .FunctionDef _ _ _ _ _ _ sc _ _ _=>sc
 |_=>{ kind:=.function,names:=[],isGenerator:=false,isCoroutine:=false }
abbrev aG:fU:=fun _ _ _ _ _ _=>False
abbrev E0:XK:=fun _ _ _=>False
theorem XZ {X:Cx}:Passes aG X E0:=fun _ _ _ _ _ _ _ h=>h.elim
structure cE (K:Frag) (x qual:Str) (st:Stmt) (f:Addr) (fd:FuncData):Prop where
 ex:∃ (oc:Value) (od:Option Addr) (kV doc pm:Value) (an:Option Addr) (az ct:Value) (gS:Array (Option Value)),
  fd=fnOf x qual (cJ st) (bR st) (aD st) .none kV doc pm an az ct/\K.lookup f=some ⟨oc,od,.func fd,gS⟩/\codeIn K az qual=true
 kp:keepIn K (.ref f)=true
section
variable {P:Program}{w:World}{K:Frag}{mg:Str->Option Value}{base:Heap}
theorem cE.binds {x qual:Str}{st:Stmt}{f:Addr}{fd:FuncData}{ps:List Str}(F:cE K x qual st f fd)(h:∀ (kV doc pm:Value) (an:Option Addr) (az ct:Value) (us:List Value),us.length=ps.length->bindArgs (fnOf x qual (cJ st) (bR st) (aD st) .none kV doc pm an az ct) ⟨us,[]⟩=pure (ps.zip us)):Binds K fd ps []:=by
 obtain ⟨oc,od,kV,doc,pm,an,az,ct,gS,rfl,lk,ie⟩:=F.ex
 exact .all (h kV doc pm an az ct)
theorem eU {x qual:Str}{st:Stmt}{f:Addr}{oc:Value}{od an:Option Addr}{gS:Array (Option Value)}{kV doc pm az ct:Value}(l:K.lookup f=some ⟨oc,od,.func (fnOf x qual (cJ st) (bR st) (aD st) .none kV doc pm an az ct),gS⟩)(c:codeIn K az qual=true)(k:keepIn K (.ref f)=true):cE K x qual st f (fnOf x qual (cJ st) (bR st) (aD st) .none kV doc pm an az ct):=⟨⟨oc,od,kV,doc,pm,an,az,ct,gS,rfl,l,c⟩,k⟩
end
section
variable {X:Cx}
theorem pv (i:Nat){x:Str}{pos:Pos}(hN:X.N[i]?=some x:=by rfl)(hv:kC X.env.scope x:=by first | exact Or.inl rfl | exact Or.inr (Or.inl rfl) | exact Or.inr (Or.inr rfl))(hd:(x==("__debug__" : Str))=false:=by decide)(ie:(x==("__classdict__" : Str))=false:=by decide):PE X (.Name x pos) (bD i):=p7 hN hv hd ie
end
theorem nc {A B:Prop}(h:B):if false=true then A else B:=by
 rw [AM AS]
 exact h
theorem jX {A B:Prop}(h:A):if true=true then A else B:=by
 rw [Cn rfl]
 exact h
def ai (H H':Hp):Prop:=∀ b o,H b=some o->H' b=some o
theorem ai.refl (H:Hp):ai H H:=fun _ _ h=>h
theorem ai.trans {H H1 H2:Hp}(a:ai H H1)(b:ai H1 H2):ai H H2:=fun c o h=>b c o (a c o h)
theorem ai.free {H H':Hp}(e:ai H H'){l:Addr}(h:H' l=Option.none):H l=Option.none:=by
 cases q:H l with
 |none=>rfl
 |some o =>
  rw [e l o q] at h
  cases h
theorem ai.seq {K:Frag}{H H':Hp}{a:Addr}{xs:List V}(e:ai H H')(h:aF K H a xs):aF K H' a xs:=by
 rcases h with (h | ⟨o,h⟩) | h
 ·exact .inl (.inl (e _ _ h))
 ·exact .inl (.inr ⟨o,e _ _ h⟩)
 ·exact .inr h
abbrev cy:Value->Shared->Prop:=fun _ _=>False
theorem lV {α:Type}{M:Model}{A:Around}{m:Sem α}{Q : α->Shared->Prop}{E:Value->Shared->Prop}{s:Shared}(h:wpAny M A m Q cy s):wpAny M A m Q E s :=
 ET h (fun _ _ q=>q) fun _ _ z=>z.elim
abbrev jL (ifs:List Expr)(env:Env):Sem Bool :=
 forIn ifs true fun c r=>if r=true then do let ok <- isTrue c env (eval c env);pure (ForInStep.yield ok) else pure (ForInStep.yield r)
theorem D7 {P:Program}{w:World}{A:Around}{R:Result->Shared->Prop}{s:Shared}{elt tg iter:Expr}{ifs:List Expr}{sc:Scope}{pos:Pos}{it acc:Value}{env:Env}(I:Nat->Shared->Prop)(turn:∀ n s,I n s->wpAny (model P w) A (pyNext it) (fun r s1=>match r with
   |none=>R (.ok .next) s1
   |some v=>wpAny (model P w) A (letOwnedTupleGo tg it v) (fun _ s2=>wpAny (model P w) A (assign tg env v) (fun _ s3 =>
     wpAny (model P w) A (jL ifs env) (fun ok s4=>if ok=true then wpAny (model P w) A (eval elt env) (fun x s5 =>
       wpAny (model P w) A (call (.builtin "list.append") [acc,x]) (fun _ s6=>∃ m,m<n/\I m s6) cy s5) cy s4
      else ∃ m,m<n/\I m s4) cy s3) cy s2) cy s1) cy s)(n:Nat)(h:I n s):codeAny (model P w) A (.compLoop (.ListComp elt [⟨tg,iter,ifs,0⟩] sc pos) 0 it acc env) R s:=by
 refine codeAny_loop rfl I (fun n s hI=>?_) n h
 show wpAny (model P w) A ((compTurn (.ListComp elt [⟨tg,iter,ifs,0⟩] sc pos) 0 it acc env).onRaise (fun x=>do noteFrame x env;theTreesLotGoes x)) _ _ s
 refine wpAny_noted (lV ?_)
 rw [compTurn_list]
 refine ba (YO (ba (aj (turn n s hI) fun r s1 h1=>?_)))
 cases r with
 |none=>exact wb h1
 |some v =>
  refine ba (aj h1 fun _ s2 h2=>ba (aj h2 fun _ s3 h3=>ba (aj h3 fun ok s4 h4=>?_)))
  cases ok with
  |false=>exact wb ⟨rfl,h4⟩
  |true=>exact ba (ba (aj h4 fun x s5 h5=>ba (aj h5 fun _ s6 h6=>wb (wb ⟨rfl,h6⟩))))
theorem uJ:∀ (names:List (Str×NameKind)) (n:Nat) (acc:List (Str×Addr)) (y:Str),(∃ c,acc.lookup y=some c)->∃ c,(cellsFrom n names acc).lookup y=some c
 |[],_,_,_,h=>h
 |(name,kind)::r,n,acc,y,⟨c,h⟩=>by
  unfold cellsFrom
  split
  ·refine uJ r _ _ y ?_
   rw [Co]
   split
   ·exact ⟨_,rfl⟩
   ·exact ⟨c,h⟩
  ·exact uJ r _ _ y ⟨c,h⟩
theorem xA:∀ (names:List (Str×NameKind)) (n:Nat) (acc:List (Str×Addr)) (y:Str),(y,NameKind.cell) ∈ names->∃ c,(cellsFrom n names acc).lookup y=some c
 |[],_,_,_,h=>nomatch h
 |(name,kind)::r,n,acc,y,h=>by
  unfold cellsFrom
  rcases gr.mp h with e | h
  ·cases e
   rw [Cn (by decide)]
   exact uJ r _ _ _ ⟨n,by rw [List.lookup_cons_self]⟩
  ·split
   ·exact xA r _ _ y h
   ·exact xA r _ _ y h
theorem pL:∀ (names:List (Str×NameKind)) (n:Nat) (acc:List (Str×Addr)) (y:Str) (c:Addr),(cellsFrom n names acc).lookup y=some c->acc.lookup y=some c\/(n<=c/\(y,NameKind.cell) ∈ names)
 |[],_,_,_,_,h=>.inl h
 |(name,kind)::r,n,acc,y,c,h=>by
  unfold cellsFrom at h
  split at h
  ·rename_i hk
   rcases pL r _ _ y c h with q | ⟨q1,q2⟩
   ·rw [Co] at q
    split at q
    ·rename_i hy
     cases q
     rw [GG.mp hy,<- GG.mp hk]
     exact .inr ⟨ee _,.head _⟩
    ·exact .inl q
   ·exact .inr ⟨OK q1,.tail _ q2⟩
  ·rcases pL r _ _ y c h with q | ⟨q1,q2⟩
   ·exact .inl q
   ·exact .inr ⟨q1,.tail _ q2⟩
theorem D8:∀ (names:List (Str×NameKind)) (n:Nat) (acc:List (Str×Addr)) (y:Str),(y,NameKind.cell) ∉ names->(cellsFrom n names acc).lookup y=acc.lookup y
 |[],_,_,_,_=>rfl
 |(name,kind)::r,n,acc,y,h=>by
  unfold cellsFrom
  have hr:(y,NameKind.cell) ∉ r:=fun z=>h (.tail _ z)
  split
  ·rename_i hk
   rw [D8 r _ _ y hr,Co]
   split
   ·rename_i hy
    exact absurd (show (y,NameKind.cell) ∈ (name,kind)::r by rw [GG.mp hy,<- GG.mp hk];exact .head _) h
   ·rfl
  ·exact D8 r _ _ y hr
theorem D9:∀ (names:List (Str×NameKind)) (n:Nat) (acc:List (Str×Addr)),(∀ y c,acc.lookup y=some c->c<n)->(∀ y z c,acc.lookup y=some c->acc.lookup z=some c->y=z) ->
  ∀ y z c,(cellsFrom n names acc).lookup y=some c->(cellsFrom n names acc).lookup z=some c->y=z
 |[],_,_,_,h=>h
 |(name,kind)::r,n,acc,h1,h2=>by
  unfold cellsFrom
  split
  ·refine D9 r _ _ (fun y c e=>?_) fun y z c e e'=>?_
   ·rw [Co] at e
    split at e
    ·cases e;exact Nat.lt_succ_self _
    ·exact ab8 (h1 y c e)
   ·rw [Co] at e e'
    split at e
    ·rename_i hy
     cases e
     split at e'
     ·rename_i hz
      rw [GG.mp hy,GG.mp hz]
     ·exact absurd (h1 z _ e') (LM _)
    ·split at e'
     ·cases e'
      exact absurd (h1 y _ e) (LM _)
     ·exact h2 y z c e e'
  ·exact D9 r _ _ h1 h2
theorem sr:∀ (names:List (Str×NameKind)) (h:Heap) (acc:List (Str×Addr)) (y:Str) (c:Addr),(cellsFrom h.objs.size names acc).lookup y=some c->acc.lookup y=some c\/(pushCells h names).IsCell c none
 |[],_,_,_,_,e=>.inl e
 |(name,kind)::r,h,acc,y,c,e=>by
  unfold cellsFrom at e
  unfold pushCells
  split
  ·rename_i hk
   rw [Cn hk] at e
   rw [show h.objs.size+1=(h.push { cls:=.type "cell",data:=.cell none }).objs.size from (OP ..).symm] at e
   rcases sr r _ _ y c e with q | q
   ·rw [Co] at q
    split at q
    ·cases q
     exact .inr (Heap.IsCell.keeps ⟨_,ze _ rfl,rfl⟩ (OR r _))
    ·exact .inl q
   ·exact .inr q
  ·rename_i hk
   rw [AM hk] at e
   exact sr r _ _ y c e
theorem wu {M:Model}{A:Around}{E:Value->Shared->Prop}{s:Shared}{scope:Scope}{globals:Addr}{cl:List (Str×Addr)}{qual:Str}{func:Option Addr}{code:Value}{env:Env}{builtins:Addr}{Q:Env->Shared->Prop}(hQ:Q (newEnv scope s.heap.objs.size globals (cellsFrom (s.heap.objs.size+1) scope.names cl) qual func code (some env) builtins) { s with heap:=pushCells (s.heap.push { cls:=.type "dict",data:=.dict #[] }) scope.names }) :
  wpAny M A (newFunctionEnv scope globals cl [] qual func code (some env) builtins) Q E s:=by
 simp only [newFunctionEnv,Option.isSome_some,acu]
 refine ba (wpAny_alloc ?_)
 refine ba (wpAny_layCells _ (fun name kind cells=>by cases hkc:kind==NameKind.cell<;>simp [hkc]) _ _ _ _ ?_)
 rw [show ({ s with heap:=s.heap.push { cls:=.type "dict",data:=.dict #[] } }:Shared).heap.objs.size=s.heap.objs.size+1 from OP ..]
 rw [List.forIn_nil]
 exact ba (wb (wb hQ))
def bE (X:Cx)(own:List Str)(fr:List Nat)(sc:Scope)(cl:List (Str×Addr))(C:Addr)(s:Shared)(H:Hp)(ex:List Addr)(pn:List (Addr×Obj)):Cx where
 prog:=X.prog
 w:=X.w
 K:=X.K
 mg:=X.mg
 base:=X.base
 A:=X.A
 N:=own++fr.map fun j=>X.N.getD j ""
 bW:=s
 vw:=H
 env:=compEnvC sc (cellsFrom (C+1) sc.names cl) C X.env
 outer:=X.stack
 stack:=X.stack
 ex:=ex
 fn:=fun y=>(cl.lookup y).isNone
 calm:=X.calm
 pn:=pn
 xe:=cy
def su (own:List Str)(fr:List Nat)(σ:St):St:=own.map (fun _=>none)++fr.map fun j=>(σ[j]?).join
structure gy (X:Cx) (sc:Scope) (cl:List (Str×Addr)) (fr:List Nat):Prop where
 tf:closureFor sc X.env=pure cl
 kind:sc.kind=.function
 cells:∀ y,(y,NameKind.cell) ∈ sc.names->cl.lookup y=none
 names:∀ y ∈ sc.names,y.2=.local->sc.names.lookup y.1=some .local
 sub:∀ y c,cl.lookup y=some c->X.env.cells.lookup y=some c
 has:∀ y,((relabel sc X.env).names.lookup y=some .cell\/(relabel sc X.env).names.lookup y=some .free)->(∃ c,cl.lookup y=some c)\/(y,NameKind.cell) ∈ sc.names
 Gj:∀ j ∈ fr,∃ y,X.N[j]?=some y/\((relabel sc X.env).names.lookup y=some .cell\/(relabel sc X.env).names.lookup y=some .free)/\kC X.env.scope y/\X.env.scope.names.lookup y ≠ some .local/\∃ c,cl.lookup y=some c
def qU (wi:TI)(g:TG)(tt:TT)(te:TE)(own:List Str)(fr:List Nat):TE:=fun σ H Q=>wi σ H fun J H1=>∀ acc,H1 acc=none ->
 ∃ W:Nat->Nat->List V->St->Hp->Prop,(∃ m,W 0 m [] (su own fr σ) (upd H1 acc (.lst [])))/\∀ i m ys ak H2,W i m ys ak H2->H2 acc=some (.lst ys)/\ys.length<sizeLine /\
  ((J.stop i H2/\Q (.ref acc) H2)\/(J.go i H2/\∃ N:List V->St->Hp->Prop,(∀ zs bB H3,N zs bB H3->∃ m',m'<m/\W (i+1) m' zs bB H3) /\
   ∀ x H3,J.tN i H2 x H3->g x ak H3 fun bB H4=>tt bB H4 fun b H5=>if b=true then te bB H5 (fun y H6=>H6 acc=some (.lst ys)/\N (ys++[y]) bB (upd H6 acc (.lst (ys++[y])))) else N ys bB H5))
theorem VQ {N:List Str}{j:Nat}{y:Str}(h:N[j]?=some y):N.getD j "" = y:=by rw [br,h];rfl
theorem lcInv {X:Cx}{pins:List (Addr×Obj)}{σ:St}{H:Hp}{s:Shared}{sc:Scope}{cl:List (Str×Addr)}{own:List Str}{fr:List Nat}{fp:List Addr}{h4:Heap}{tk:Nat}(L:gy X sc cl fr)(I:Inv X pins σ H s)(yD:∀ b ∈ fp,eW X pins H b)(dR:∀ b ∈ fp,b<s.heap.objs.size)(ig:h4.Ns s.heap.objs.size fun _=>none)(kp:∀ b o,s.heap.get? b=some o->h4.get? b=some o)(ju:∀ y c,(cellsFrom (s.heap.objs.size+1) sc.names cl).lookup y=some c->cl.lookup y=some c\/h4.IsCell c none):Inv (bE X own fr sc cl s.heap.objs.size s H fp (X.pn++pins)) [] (su own fr σ) H { s with heap:=h4,toks:=tk }:=by
 have noL:∀ {b:Addr} {o:Obj},s.heap.get? b=some o->b ≠ s.heap.objs.size:=fun e=>xp (lp e)
 have hex:∀ b ∈ (bE X own fr sc cl s.heap.objs.size s H fp (X.pn++pins)).ex,b ∈ fp:=fun b z=>z
 have j8:∀ b,b ≠ X.env.locals->b ∉ X.fs->b ∉ bg X.stack:=fun b h1 h2 z=>(gr.mp (I.jO b z)).elim h1 h2
 have Mr:∀ y c,cl.lookup y=some c->∃ v,s.heap.IsCell c v:=fun y c e=>I.cell y c (L.sub y c e)
 have split:∀ y c,(cellsFrom (s.heap.objs.size+1) sc.names cl).lookup y=some c->cl.lookup y=some c\/s.heap.objs.size+1<=c:=fun y c e=>(pL _ _ _ y c e).imp id And.left
 refine ⟨⟨I.ok.mod,L.kind,I.ok.glob,I.ok.blt,ee _,D9 _ _ _ (fun y c e=>by obtain ⟨v,q⟩:=Mr y c e;exact ab8 q.lt) (fun y z c h1 h2=>I.ok.inj y z c (L.sub y c h1) (L.sub z c h2)),fun y hy=>(L.has y hy).elim (uJ _ _ _ y) (xA _ _ _ y),fun y c hy e=>?_,I.ok.hd,I.ok.frames,.inl rfl,
   fun b hb=>⟨xp (dR b (hex b hb)),fun y c e=>(split y c e).elim (fun q=>(yD b (hex b hb)).2.2.2.2.1 y c (L.sub y c q)) fun q=>Nl (rb (dR b (hex b hb)) (OK q))⟩,I.bs,EM I.ok.iW I.sz,fun b o e z=>?_,fun b z=>?_,I.stack,I.wW⟩,
  rfl,I.bare,Un.kept kp,⟨_,ig,fun i y v h1 h2 h3=>?_⟩,fun y c e=>?_,I.aq.fresh (ee _),fun y c e=>(split y c e).elim (fun q=>I.gJ y c (L.sub y c q)) fun q=>I.aq.fresh (OK q),fun p hp=>?_,I.aq.kept kp,?_⟩
 ·have oW:(cl.lookup y).isNone=true:=hy
  rcases split y c e with q | q
  ·rw [q] at oW
   cases oW
  ·exact OK q
 ·rcases (yD b (hex b z)).2.2.2.1 with q | q
  ·exact I.ok.lM b o e q
  ·exact absurd (rb (lp (I.ok.bs b o e).1) q) (LM _)
 ·exact j8 b (yD b (hex b z)).2.1 (yD b (hex b z)).2.2.1
 ·have oX:(own++fr.map fun j=>X.N.getD j "")[i]?=some y:=h1
  have eP:(own.map (fun _=>none)++fr.map fun j=>(σ[j]?).join)[i]?=some (some v):=h2
  by_cases hi:i<own.length
  ·rw [IF (by simpa using hi),i4] at eP
   cases q:own[i]? with
   |none=>rw [q] at eP;cases eP
   |some z=>rw [q] at eP;cases eP
  ·rw [BS (by omega),i4] at oX
   rw [BS (by simpa using hi),i4,aa] at eP
   cases q:fr[i-own.length]? with
   |none=>rw [q] at oX;cases oX
   |some j =>
    rw [q] at oX eP
    obtain ⟨y',n1,n2,n3,n4,c',e'⟩:=L.Gj j (ma q)
    have ey:y'=y:=by
     have this:X.N.getD j "" = y:=AE oX
     rw [VQ n1] at this
     exact this
    subst ey
    have ev : σ[j]?=some (some v):=by
     have z:(σ[j]?).join=some v:=AE eP
     cases q2 : σ[j]? with
     |none=>rw [q2] at z;cases z
     |some o=>rw [q2] at z;exact congrArg some z
    obtain ⟨m,_,hl⟩:=I.loc
    obtain ⟨u,r,l⟩:=hl j y' v n1 ev n3
    refine ⟨u,r,.inr ⟨n2,?_⟩⟩
    rcases l with ⟨k,_⟩ | ⟨_,c,e,z⟩
    ·exact absurd k n4
    ·have:=L.sub y' c' e'
     rw [e] at this
     cases this
     obtain ⟨o,ho,hd⟩:=z
     exact ⟨_,(D8 _ _ _ y' fun z=>by rw [L.cells y' z] at e';cases e').trans e',o,kp _ o ho,hd⟩
 ·rcases ju y c e with q | q
  ·obtain ⟨v,o,ho,hd⟩:=Mr y c q
   exact ⟨v,o,kp c o ho,hd⟩
  ·exact ⟨none,q⟩
 ·have hp':p ∈ X.pn++pins:=by
   have z:p ∈ (X.pn++pins)++[]:=hp
   simpa using z
  obtain ⟨e,n,ne,nf,d⟩:=I.pin p hp'
  exact ⟨kp _ _ e,n,noL e,j8 _ ne nf,d⟩
 ·show (own.map (fun _=>(none:Option V))++fr.map fun j=>(σ[j]?).join).length=(own++fr.map fun j=>X.N.getD j "").length
  simp
theorem X0 {X:Cx}{elt tg iter:Expr}{ifs:List Expr}{sc:Scope}{cl:List (Str×Addr)}{own:List Str}{fr:List Nat}{pos:Pos}{wi:TI}{g:TG}{tt:TT}{te:TE}(L:gy X sc cl fr)(hc:X.calm=true)(hi:PI X tg iter wi)(hg:∀ C s H ex pn,PG (bE X own fr sc cl C s H ex pn) tg g)(ht:∀ C s H ex pn (pins:List (Addr×Obj)) (s1:Shared) (ak:St) (H1:Hp) (Q:Bool->Hp->Prop),Inv (bE X own fr sc cl C s H ex pn) pins ak H1 s1->tt ak H1 Q ->
   wpAny (model X.prog X.w) X.A (jL ifs (compEnvC sc (cellsFrom (C+1) sc.names cl) C X.env)) (TP (bE X own fr sc cl C s H ex pn) pins ak Q) cy s1)(he:∀ C s H ex pn,PE (bE X own fr sc cl C s H ex pn) elt te)(hs:∀ x,foldedSetIterable iter X.env x=pure x:=by intro _;rfl) :
  PE X (.ListComp elt [⟨tg,iter,ifs,0⟩] sc pos) (qU wi g tt te own fr):=by
 intro pins s σ H Q I h
 rw [eval_ListComp]
 refine abJ (use:=none) rfl hs L.tf L.kind L.names (aj (hi pins s σ H _ I h) fun v s1 h1=>aj h1 fun oU s2 h2=>?_)
 obtain ⟨it,fp,tn,J,H2,e,I2,T,bO,f2,h2⟩:=h2
 subst e
 refine Sk ?_
 have I3:Inv X pins σ (upd H2 s2.heap.objs.size (.lst [])) { s2 with heap:=s2.heap.push { cls:=.type "list",data:=.seq ([]:List Value).toArray } }:=I2.vB (t':=s2.toks) .nil (Cs _)
 have n2:H2 s2.heap.objs.size=none:=I2.fresh
 obtain ⟨W,⟨m0,w0⟩,turn⟩:=h2 _ n2
 have ny:∀ b ∈ fp,b<s2.heap.objs.size:=fun b hb=>by
  obtain ⟨o,eo,_⟩:=T.obj 0 _ bO b hb
  exact lp eo
 have bb:∀ b ∈ fp,eW X pins (upd H2 s2.heap.objs.size (.lst [])) b:=fun b hb=>⟨by rw [ay (xp (ny b hb))];exact (f2 b hb).1,(f2 b hb).2⟩
 generalize fW:({ s2 with heap:=s2.heap.push { cls:=.type "list",data:=.seq ([]:List Value).toArray } }:Shared)=s3 at I3
 have fE:tn 0 s3.heap:=by
  rw [<- fW]
  exact T.keep 0 _ _ bO fun b hb o eo=>gc _ eo
 have iE:∀ b ∈ fp,b<s3.heap.objs.size:=fun b hb=>by
  obtain ⟨o,eo,_⟩:=T.obj 0 _ fE b hb
  exact lp eo
 generalize oY:upd H2 s2.heap.objs.size (.lst [])=H3 at I3 bb w0
 generalize s2.heap.objs.size=acc at turn w0 oY ⊢
 refine wu ?_
 have ig:(pushCells (s3.heap.push { cls:=.type "dict",data:=.dict #[] }) sc.names).Ns s3.heap.objs.size fun _=>none:=(Heap.Ns.new s3.heap (.type "dict")).keeps (OR _ _)
 have kp:∀ b o,s3.heap.get? b=some o->(pushCells (s3.heap.push { cls:=.type "dict",data:=.dict #[] }) sc.names).get? b=some o:=fun b o eo=>OR _ _ b o (gc _ eo)
 have ju:∀ y c,(cellsFrom (s3.heap.objs.size+1) sc.names cl).lookup y=some c->cl.lookup y=some c\/(pushCells (s3.heap.push { cls:=.type "dict",data:=.dict #[] }) sc.names).IsCell c none:=fun y c e =>
  sr sc.names (s3.heap.push { cls:=.type "dict",data:=.dict #[] }) cl y c (by rw [OP];exact e)
 generalize Gk:pushCells (s3.heap.push { cls:=.type "dict",data:=.dict #[] }) sc.names=h4 at ig kp ju
 have I4:=lcInv (own:=own) (tk:=s3.toks) L I3 bb iE ig kp ju
 have kG:tn 0 h4:=T.keep 0 _ _ fE fun b hb o eo=>kp b o eo
 have stat:∀ {H':Hp},(∀ b ∈ fp,H' b=none)->∀ b ∈ fp,eW (bE X own fr sc cl s3.heap.objs.size s3 H3 fp (X.pn++pins)) [] H' b:=fun {H'} hn b hb =>
  ⟨hn b hb,xp (iE b hb),fun z=>(gr.mp (I3.jO b z)).elim (bb b hb).2.1 (bb b hb).2.2.1,.inl hb,fun y c e=>(pL _ _ _ y c e).elim (fun q=>(bb b hb).2.2.2.2.1 y c (L.sub y c q)) fun q=>Nl (rb (iE b hb) (OK q.1)),fun p hp=>(bb b hb).2.2.2.2.2 p (by
   have z:p ∈ (X.pn++pins)++[]:=hp
   simpa using z)⟩
 have loop:codeAny (model X.prog X.w) X.A (.compLoop (.ListComp elt [⟨tg,iter,ifs,0⟩] sc pos) 0 (.ref it) (.ref acc) (compEnvC sc (cellsFrom (s3.heap.objs.size+1) sc.names cl) s3.heap.objs.size X.env))
   (compPost (model X.prog X.w) X.A X.xe none (EP X pins σ Q) (.ref acc) s3.heap.objs.size) { s3 with heap:=h4,toks:=s3.toks }:=by
  refine D7 (fun n s'=>∃ i ys ak H1,Inv (bE X own fr sc cl s3.heap.objs.size s3 H3 fp (X.pn++pins)) [] ak H1 s'/\tn i s'.heap/\(∀ b ∈ fp,H1 b=none)/\W i n ys ak H1) ?_ m0 ⟨0,[],_,H3,I4,kG,fun b hb=>(bb b hb).1,w0⟩
  rintro n s5 ⟨i,ys,fX,H5,I5,cL,jo,w5⟩
  obtain ⟨gO,hlen,hh⟩:=turn i n ys fX H5 w5
  rcases hh with ⟨stop,qn⟩ | ⟨go,N,hN,step⟩
  ·refine aj (T.done (bE X own fr sc cl s3.heap.objs.size s3 H3 fp (X.pn++pins)) rfl rfl rfl hc i [] s5 fX H5 cy I5 (stat jo) cL stop) fun r s6 ⟨hr,I6⟩=>?_
   subst hr
   obtain ⟨m6,kH,_⟩:=id I6.loc
   refine ⟨m6,kH,fun h7 fY=>⟨.ref acc,H5,?_,rfl,qn⟩⟩
   have old:∀ b o,s3.heap.get? b=some o->b ≠ s3.heap.objs.size:=fun b o eo=>xp (lp eo)
   have u6:Un (bg X.stack) fp H3 H5 s3.heap s6.heap:=I6.base
   have u7:Un (bg X.stack) fp H3 H5 s3.heap h7 :=
    ⟨fun b o eo nn hb hx=>(fY.2 b (old b o eo)).trans (u6.keep b o eo nn hb hx),fun b o eo nn hb hx=>by
     obtain ⟨sl,q⟩:=u6.slot b o eo nn hb hx
     exact ⟨sl,(fY.2 b (old b o eo)).trans q⟩,u6.free,fun b o eo hx=>by
     obtain ⟨o',q⟩:=u6.there b o eo hx
     exact ⟨o',(fY.2 b (old b o eo)).trans q⟩,u6.dJ,u6.dF,u6.dN⟩
   have fC:H5 s3.heap.objs.size=none:=I6.free
   have qC:cV X.prog X.w H5 h7:=fun b ob eb=>by
    refine (I6.aq b ob eb).hJ (fun c w' fT q=>(fY.2 c ?_).trans q) (fun _ q=>q) fun _ _ q=>q
    rintro rfl
    rcases fT with z | z
    ·rw [<- z,fC] at eb;cases eb
    ·rw [fC] at z;cases z
   exact I3.sS (s':={ s6 with heap:=h7 }) I6.os u7 qC I6.bare fun b hb=>⟨(bb b hb).2.2.2.1,(bb b hb).2.1,(bb b hb).2.2.2.2.1,(bb b hb).2.2.2.2.2⟩
  ·refine aj (T.item (bE X own fr sc cl s3.heap.objs.size s3 H3 fp (X.pn++pins)) rfl rfl rfl hc i [] s5 fX H5 cy I5 (stat jo) cL go) fun r s6 ⟨u,hr,h6⟩=>?_
   subst hr
   refine aj h6 fun _ s7 ⟨x,H7,I7,r7,y7,iF,qV⟩=>?_
   have qW:=I7.pinned (stat qV) (T.obj _ _ iF)
   refine aj (hg _ _ _ _ _ _ s7 fX H7 x u _ qW r7 (step x H7 y7)) fun _ s8 ⟨fZ,H8,I8,q8⟩=>?_
   have again:∀ {zs:List V} {bG:St} {H9:Hp} {s9:Shared},Inv (bE X own fr sc cl s3.heap.objs.size s3 H3 fp (X.pn++pins)) ([]++oh fp s7.heap) bG H9 s9->N zs bG H9 ->
     ∃ m,m<n/\∃ i ys ak H1,Inv (bE X own fr sc cl s3.heap.objs.size s3 H3 fp (X.pn++pins)) [] ak H1 s9/\tn i s9.heap/\(∀ b ∈ fp,H1 b=none)/\W i m ys ak H1:=fun {zs bG H9 s9} I9 n9=>by
    obtain ⟨m',hm,w9⟩:=hN zs bG H9 n9
    refine ⟨m',hm,i+1,zs,bG,H9,I9.pO,T.keep _ _ _ iF fun b hb o e=>(I9.pin (b,o) (ff _ (ff _ (lh hb e)))).1,fun b hb=>?_,w9⟩
    obtain ⟨o,e,d⟩:=T.obj _ _ iF b hb
    exact (I9.pin (b,o) (ff _ (ff _ (lh hb e)))).2.1
   refine aj (ht _ _ _ _ _ _ s8 fZ H8 _ I8 q8) fun ok s9 ⟨H9,I9,q9⟩=>?_
   cases ok with
   |false=>exact again I9 (by simpa using q9)
   |true =>
    refine aj (he _ _ _ _ _ _ s9 fZ H9 _ I9 q9) fun z iG ⟨y,qX,ef,nz,j9,qY⟩=>?_
    refine aj (kf _ iG fZ qX (.ref acc) [y] (.ref acc) [z] (fun _ H'=>N (ys++[y]) fZ H') ef rfl (.cons nz .nil) ⟨acc,ys,y,rfl,rfl,j9,hlen,qY⟩) fun _ Gm ⟨_,Gp,qZ,_,ra⟩=>again qZ ra
 rw [<- fW] at loop ⊢
 exact abp loop (lV (T.self _ 0 _ _ _ kG (by rw [fW];rw [fW] at loop;exact loop)))
theorem VR {n:Int}{k:Nat}(h:n.natAbs<2 ^ k)(hk : 0<k):n.natAbs.log2<k:=by
 by_cases z:n.natAbs=0
 ·rw [z]
  show Nat.log2 0<k
  rw [Nat.log2_zero]
  exact hk
 ·exact (Nat.log2_lt z).mpr h
section
variable {X:Cx}
def Nb (i j:Int):Prop:=i.natAbs<2 ^ 8000/\j.natAbs<2 ^ 8000
theorem VS:dv X (binaryOp .Mult) (rI Nb fun i j=>.int (i*j)):=yy fun _ _ _ _ _ _ _ hc q =>
 mul_int q (IntMulOk.of_le (intBits_le_iff.mpr hc.1) (intBits_le_iff.mpr hc.2) (by decide))
def qj (_ j:Int):Prop:=0<j/\j.natAbs<2 ^ 8000
theorem UW:dv X (binaryOp .FloorDiv) (rI qj fun i j=>.int (i / j)):=yy fun i j _ _ _ _ _ hc q=>by
 have h1:(0:Int)<j:=hc.1
 refine floordiv_int (by omega) (by rw [Int.fdiv_eq_ediv_of_nonneg i (by omega)];exact q) (.inl (PyProof.noPylong_of_log2 ?_))
 exact Nat.lt_trans (VR hc.2 (by decide)) (by decide)
theorem To {hi c:Int}(h0 : 0<=hi)(h1:hi<2 ^ 30)(c0 : 0<c)(c1:c<2 ^ 30):Builtin.Range.small 0 hi c=true:=by
 unfold Builtin.Range.small
 rw [rangeSize_pos (by omega) h0]
 have a0 : 0<=(hi+c-1) / c:=Int.ediv_nonneg (by omega) (by omega)
 have a1:(hi+c-1) / c*c<=hi+c-1:=Int.ediv_mul_le _ (by omega)
 have a2:(hi+c-1) / c<=hi+c-1:=Int.ediv_le_self _ (by omega)
 have a3:(0:Int)<=(hi+c-1) / c*c:=Int.mul_nonneg a0 (by omega)
 have cc:c > 0:=c0
 simp only [Builtin.Range.rangeFitsLong,DD,abW,Sm,GG,cc,acu]
 generalize (hi+c-1) / c*c=p at *
 generalize (hi+c-1) / c=q at *
 omega
end
inductive Dv where
 |fl (v:V)
 |lst (ds:List Dv)
 |tup (ds:List Dv)
mutual
def eQ:Dv->Dv->Bool
 | .fl x,.fl y=>gT x y
 | .lst a,.lst b=>ia a b
 | .tup a,.tup b=>ia a b
 |_,_=>false
def ia:List Dv->List Dv->Bool
 |[],[] => true
 |x::r,y::q=>eQ x y&&ia r q
 |_,_=>false
end
mutual
def gU:Dv->Nat
 | .fl _=>0
 | .lst a=>eX a+1
 | .tup a=>eX a+1
def eX:List Dv->Nat
 |[] => 0
 |x::r=>max (gU x) (eX r)
end
mutual
def Hv (K:Frag)(H:Hp):Dv->V->Prop
 | .fl v,x=>x=v/\fA v=true
 | .lst ds,x=>∃ a xs,x=.ref a/\aF K H a xs/\aU K H ds xs
 | .tup ds,x=>∃ a xs,x=.ref a/\eM K H a xs/\aU K H ds xs
def aU (K:Frag)(H:Hp):List Dv->List V->Prop
 |[],xs=>xs=[]
 |d::ds,xs=>∃ x r,xs=x::r/\Hv K H d x/\aU K H ds r
end
theorem Km {v:V}(h:fA v=true):gT v v=true:=by
 cases v<;>first | rfl | (simp [gT];done) | (exact absurd h (by decide)) | (cases h)
section
variable {X:Cx}{pins:List (Addr×Obj)}{σ:St}{H:Hp}{s:Shared}
theorem Ko (I:Inv X pins σ H s){a:Addr}{xs ys:List V}(h1:aF X.K H a xs)(h2:eM X.K H a ys):False:=by
 obtain ⟨i1,_,p1,_⟩:=I.list h1
 obtain ⟨i2,_,p2,_⟩:=I.tuple h2
 exact SeqAt.ne_of_list_tuple p1.isList p2 rfl
mutual
theorem DI (I:Inv X pins σ H s):∀ (d e:Dv) (x:V),Hv X.K H d x->Hv X.K H e x->eQ d e=true
 | .fl v,.fl w,x,h1,h2=>by
  obtain ⟨rfl,f⟩:=h1
  obtain ⟨rfl,_⟩:=h2
  exact Km f
 | .fl v,.lst es,x,h1,h2=>by
  obtain ⟨rfl,f⟩:=h1
  obtain ⟨a,xs,rfl,_⟩:=h2
  cases f
 | .fl v,.tup es,x,h1,h2=>by
  obtain ⟨rfl,f⟩:=h1
  obtain ⟨a,xs,rfl,_⟩:=h2
  cases f
 | .lst ds,.fl v,x,h2,h1=>by
  obtain ⟨rfl,f⟩:=h1
  obtain ⟨a,xs,rfl,_⟩:=h2
  cases f
 | .tup ds,.fl v,x,h2,h1=>by
  obtain ⟨rfl,f⟩:=h1
  obtain ⟨a,xs,rfl,_⟩:=h2
  cases f
 | .lst ds,.lst es,x,h1,h2=>by
  obtain ⟨a,xs,rfl,q,r⟩:=h1
  obtain ⟨b,ys,e,q',r'⟩:=h2
  cases e
  have:=I.Kj q q'
  subst this
  exact C7 I ds es xs r r'
 | .tup ds,.tup es,x,h1,h2=>by
  obtain ⟨a,xs,rfl,q,r⟩:=h1
  obtain ⟨b,ys,e,q',r'⟩:=h2
  cases e
  have:=I.TZ q q'
  subst this
  exact C7 I ds es xs r r'
 | .lst ds,.tup es,x,h1,h2=>by
  obtain ⟨a,xs,rfl,q,r⟩:=h1
  obtain ⟨b,ys,e,q',r'⟩:=h2
  cases e
  exact (Ko I q q').elim
 | .tup ds,.lst es,x,h1,h2=>by
  obtain ⟨a,xs,rfl,q,r⟩:=h1
  obtain ⟨b,ys,e,q',r'⟩:=h2
  cases e
  exact (Ko I q' q).elim
theorem C7 (I:Inv X pins σ H s):∀ (ds es:List Dv) (xs:List V),aU X.K H ds xs->aU X.K H es xs->ia ds es=true
 |[],[],_,_,_=>rfl
 |[],e::es,xs,h1,h2=>by
  obtain rfl:xs=[]:=h1
  obtain ⟨x,r,z,_⟩:=h2
  cases z
 |d::ds,[],xs,h1,h2=>by
  obtain rfl:xs=[]:=h2
  obtain ⟨x,r,z,_⟩:=h1
  cases z
 |d::ds,e::es,xs,h1,h2=>by
  obtain ⟨x,r,rfl,a,b⟩:=h1
  obtain ⟨x',r',z,a',b'⟩:=h2
  cases z
  show (eQ d e&&ia ds es)=true
  rw [DI I d e x a a',C7 I ds es r b b']
  rfl
end
theorem aU.length {K:Frag}{H:Hp}:∀ {ds:List Dv} {xs:List V},aU K H ds xs->ds.length=xs.length
 |[],xs,h=>by
  obtain rfl:xs=[]:=h
  rfl
 |d::ds,xs,h=>by
  obtain ⟨x,r,rfl,_,b⟩:=h
  rw [mf,mf,aU.length b]
theorem pP:∀ {ds es:List Dv},ds.length ≠ es.length->ia ds es=false
 |[],[],h=>absurd rfl h
 |[],_::_,_=>rfl
 |_::_,[],_=>rfl
 |d::ds,e::es,h=>by
  show (eQ d e&&ia ds es)=false
  rw [pP (ds:=ds) (es:=es) (by simpa using h),aab]
def jT (ds es:List Dv)(j:Nat):Bool:=match ds[j]?,es[j]? with
 |some d,some e=>eQ d e
 |_,_=>false
theorem pM:∀ {ds es:List Dv},ds.length=es.length->(List.range ds.length).all (jT ds es)=ia ds es
 |[],[],_=>rfl
 |[],_::_,h=>by cases h
 |_::_,[],h=>by cases h
 |d::ds,e::es,h=>by
  rw [mf,ab4,Zl,List.all_map]
  show (eQ d e&&(List.range ds.length).all (jT (d::ds) (e::es) ∘ Nat.succ))=(eQ d e&&ia ds es)
  congr 1
  exact pM (ds:=ds) (es:=es) (by simpa using h)
mutual
theorem WU (I:Inv X pins σ H s):∀ (d e:Dv) (A:Around) (x y:V) (u v:Value),A.units+gU d<cLine->Hv X.K H d x->Hv X.K H e y->RelV x u->RelV y v->SeqAt.EqAt A s u v (eQ d e)
 | .fl a,.fl b,A,x,y,u,v,hu,h1,h2,rx,ry=>by
  obtain ⟨rfl,f1⟩:=h1
  obtain ⟨rfl,f2⟩:=h2
  exact Mo rx ry f1 f2
 | .fl a,.lst es,A,x,y,u,v,hu,h1,h2,rx,ry=>by
  obtain ⟨rfl,f1⟩:=h1
  obtain ⟨b,ys,rfl,q,r⟩:=h2
  cases ry
  obtain ⟨its,_,pl,_⟩:=I.list q
  have bz:A.units<cLine:=hu
  cases x with
  |aN=>cases rx;exact SeqAt.EqAt.none_list pl.isList bz
  |bl c=>cases rx;exact SeqAt.EqAt.bool_list c pl.isList bz
  |int c=>obtain ⟨t,rfl⟩:=rx;exact SeqAt.EqAt.int_list c t pl.isList bz
  |str c=>obtain ⟨t,rfl⟩:=rx;exact SeqAt.EqAt.str_list c t pl.isList bz
  |_=>cases f1
 | .fl a,.tup es,A,x,y,u,v,hu,h1,h2,rx,ry=>by
  obtain ⟨rfl,f1⟩:=h1
  obtain ⟨b,ys,rfl,q,r⟩:=h2
  cases ry
  obtain ⟨its,_,pl,_⟩:=I.tuple q
  have bz:A.units<cLine:=hu
  cases x with
  |aN=>cases rx;exact SeqAt.EqAt.none_tuple pl bz
  |bl c=>cases rx;exact SeqAt.EqAt.bool_tuple c pl bz
  |int c=>obtain ⟨t,rfl⟩:=rx;exact SeqAt.EqAt.int_tuple c t pl bz
  |str c=>obtain ⟨t,rfl⟩:=rx;exact SeqAt.EqAt.str_tuple c t pl bz
  |_=>cases f1
 | .lst ds,.fl b,A,x,y,u,v,hu,h1,h2,rx,ry=>by
  obtain ⟨rfl,f2⟩:=h2
  obtain ⟨a,xs,rfl,q,r⟩:=h1
  cases rx
  obtain ⟨its,_,pl,_⟩:=I.list q
  have bz:A.units<cLine:=NG (SS _ _) hu
  cases y with
  |aN=>cases ry;exact SeqAt.EqAt.list_none pl.isList bz
  |bl c=>cases ry;exact SeqAt.EqAt.list_bool c pl.isList bz
  |int c=>obtain ⟨t,rfl⟩:=ry;exact SeqAt.EqAt.list_int c t pl.isList bz
  |str c=>obtain ⟨t,rfl⟩:=ry;exact SeqAt.EqAt.list_str c t pl.isList bz
  |_=>cases f2
 | .tup ds,.fl b,A,x,y,u,v,hu,h1,h2,rx,ry=>by
  obtain ⟨rfl,f2⟩:=h2
  obtain ⟨a,xs,rfl,q,r⟩:=h1
  cases rx
  obtain ⟨its,_,pl,_⟩:=I.tuple q
  have bz:A.units<cLine:=NG (SS _ _) hu
  cases y with
  |aN=>cases ry;exact SeqAt.EqAt.tuple_none pl bz
  |bl c=>cases ry;exact SeqAt.EqAt.tuple_bool c pl bz
  |int c=>obtain ⟨t,rfl⟩:=ry;exact SeqAt.EqAt.tuple_int c t pl bz
  |str c=>obtain ⟨t,rfl⟩:=ry;exact SeqAt.EqAt.tuple_str c t pl bz
  |_=>cases f2
 | .lst ds,.tup es,A,x,y,u,v,hu,h1,h2,rx,ry=>by
  obtain ⟨a,xs,rfl,q,r⟩:=h1
  obtain ⟨b,ys,rfl,q',r'⟩:=h2
  cases rx
  cases ry
  obtain ⟨_,_,p1,_⟩:=I.list q
  obtain ⟨_,_,p2,_⟩:=I.tuple q'
  exact SeqAt.EqAt.list_tuple p1.isList p2 (NG (SS _ _) hu)
 | .tup ds,.lst es,A,x,y,u,v,hu,h1,h2,rx,ry=>by
  obtain ⟨a,xs,rfl,q,r⟩:=h1
  obtain ⟨b,ys,rfl,q',r'⟩:=h2
  cases rx
  cases ry
  obtain ⟨_,_,p1,_⟩:=I.tuple q
  obtain ⟨_,_,p2,_⟩:=I.list q'
  exact SeqAt.EqAt.tuple_list p1 p2.isList (NG (SS _ _) hu)
 | .lst ds,.lst es,A,x,y,u,v,hu,h1,h2,rx,ry=>by
  obtain ⟨a,xs,rfl,q,r⟩:=id h1
  obtain ⟨b,ys,rfl,q',r'⟩:=id h2
  cases rx
  cases ry
  by_cases nA:a=b
  ·subst nA
   rw [DI I _ _ _ h1 h2]
   exact SeqAt.EqAt.same _
  obtain ⟨i1,v1,p1,_⟩:=I.list q
  obtain ⟨i2,v2,p2,_⟩:=I.list q'
  have bz:A.units<cLine:=NG (SS _ _) hu
  have l1:=r.length
  have l2:=r'.length
  have m1:=v1.length
  have m2:=v2.length
  refine .of_refs nA ?_
  show SeqAt.RcAt A s (.ref a) (.ref b) (ia ds es)
  by_cases hl:ds.length=es.length
  ·have z:=SeqAt.RcAt.lists (e:=jT ds es) p1.isList p2.isList (by simp;omega) bz (fun j g1 g2=>pT I ds es A.in1 xs ys i1 i2 (by show A.units+1+eX ds<cLine;have:A.units+(eX ds+1)<cLine:=hu;omega) r r' v1 v2 j (by simpa using g1) (by simpa using g2))
   rw [i8,<- m1,<- l1,pM hl] at z
   exact z
  ·rw [pP hl]
   exact .lists_lengths p1.isList p2.isList (by simp;omega) bz
 | .tup ds,.tup es,A,x,y,u,v,hu,h1,h2,rx,ry=>by
  obtain ⟨a,xs,rfl,q,r⟩:=id h1
  obtain ⟨b,ys,rfl,q',r'⟩:=id h2
  cases rx
  cases ry
  by_cases nA:a=b
  ·subst nA
   rw [DI I _ _ _ h1 h2]
   exact SeqAt.EqAt.same _
  obtain ⟨i1,v1,p1,_⟩:=I.tuple q
  obtain ⟨i2,v2,p2,_⟩:=I.tuple q'
  have bz:A.units<cLine:=NG (SS _ _) hu
  have l1:=r.length
  have l2:=r'.length
  have m1:=v1.length
  have m2:=v2.length
  refine .of_refs nA ?_
  show SeqAt.RcAt A s (.ref a) (.ref b) (ia ds es)
  have z:=SeqAt.RcAt.tuples (e:=jT ds es) p1 p2 bz (fun j g1 g2=>pT I ds es A.in1 xs ys i1 i2 (by show A.units+1+eX ds<cLine;have:A.units+(eX ds+1)<cLine:=hu;omega) r r' v1 v2 j (by simpa using g1) (by simpa using g2))
  have zz:((List.range (min i1.toArray.size i2.toArray.size)).all (jT ds es)&&i1.toArray.size==i2.toArray.size)=ia ds es:=by
   rw [i8,i8,<- m1,<- m2,<- l1,<- l2]
   by_cases hl:ds.length=es.length
   ·rw [hl,acB,<- hl,pM hl];simp [hl]
   ·rw [pP hl,Mc.mpr hl,aab]
  rw [zz] at z
  exact z
theorem pT (I:Inv X pins σ H s):∀ (ds es:List Dv) (A:Around) (xs ys:List V) (us vs:List Value),A.units+eX ds<cLine->aU X.K H ds xs->aU X.K H es ys->Vals xs us->Vals ys vs ->
  ∀ (j:Nat) (h1:j<us.length) (h2:j<vs.length),SeqAt.EqAt A s us[j] vs[j] (jT ds es j)
 |[],es,A,xs,ys,us,vs,hu,h1,h2,r1,r2,j,g1,g2=>by
  obtain rfl:xs=[]:=h1
  cases r1
  exact absurd g1 (acR _)
 |d::ds,[],A,xs,ys,us,vs,hu,h1,h2,r1,r2,j,g1,g2=>by
  obtain rfl:ys=[]:=h2
  cases r2
  exact absurd g2 (acR _)
 |d::ds,e::es,A,xs,ys,us,vs,hu,h1,h2,r1,r2,j,g1,g2=>by
  obtain ⟨x,r,rfl,a,b⟩:=h1
  obtain ⟨y,q,rfl,a',b'⟩:=h2
  cases r1 with
  |cons c1 t1=>cases r2 with
   |cons c2 t2 =>
    have hm:eX (d::ds)=max (gU d) (eX ds):=rfl
    rw [hm] at hu
    cases j with
    |zero=>exact WU I d e A x y _ _ (NG (Nat.add_le_add_left (Nat.le_max_left _ _) _) hu) a a' c1 c2
    |succ j=>exact pT I ds es A r q _ _ (NG (Nat.add_le_add_left (Nat.le_max_right _ _) _) hu) b b' t1 t2 j (by simpa using g1) (by simpa using g2)
end
def yh (K:Frag)(neg:Bool):R2:=fun x y H Q=>∃ d e,((∃ ds es,d=.lst ds/\e=.lst es)\/∃ ds es,d=.tup ds/\e=.tup es)/\Hv K H d x/\Hv K H e y/\gU d<=50/\Q (.bl (if neg then !eQ d e else eQ d e)) H
theorem WV (hr:X.A.units+64<cLine):dv X (compareOp .Eq) (yh X.K false):=by
 intro pins s σ H x y v u Q I rx ry h
 obtain ⟨d,e,hk,h1,h2,hd,q⟩:=h
 have bz:X.A.units<cLine:=by omega
 rcases hk with ⟨ds,es,rfl,rfl⟩ | ⟨ds,es,rfl,rfl⟩
 ·obtain ⟨a,xs,rfl,q1,r⟩:=h1
  obtain ⟨b,ys,rfl,q2,r'⟩:=h2
  cases rx
  cases ry
  obtain ⟨i1,v1,p1,_⟩:=I.list q1
  obtain ⟨i2,v2,p2,_⟩:=I.list q2
  have l1:=r.length
  have l2:=r'.length
  have m1:=v1.length
  have m2:=v2.length
  have kD:eX ds+1<=50:=hd
  by_cases hl:ds.length=es.length
  ·refine SeqAt.eq_listAt (e:=jT ds es) p1.isList p2.isList (by simp;omega) bz (fun j g1 g2=>pT I ds es X.A.in1 xs ys i1 i2 (by show X.A.units+1+eX ds<cLine;omega) r r' v1 v2 j (by simpa using g1) (by simpa using g2)) ?_
   rw [i8,<- m1,<- l1,pM hl]
   exact ⟨.bl _,H,I,rfl,q⟩
  ·refine SeqAt.eq_list_lengthsAt p1.isList p2.isList (by simp;omega) bz ⟨.bl _,H,I,rfl,?_⟩
   have z:eQ (.lst ds) (.lst es)=false:=pP hl
   rw [z] at q
   exact q
 ·obtain ⟨a,xs,rfl,q1,r⟩:=h1
  obtain ⟨b,ys,rfl,q2,r'⟩:=h2
  cases rx
  cases ry
  obtain ⟨i1,v1,p1,_⟩:=I.tuple q1
  obtain ⟨i2,v2,p2,_⟩:=I.tuple q2
  have l1:=r.length
  have l2:=r'.length
  have m1:=v1.length
  have m2:=v2.length
  have kD:eX ds+1<=50:=hd
  refine SeqAt.eq_tupleAt (e:=jT ds es) p1 p2 bz (fun j g1 g2=>pT I ds es X.A.in1 xs ys i1 i2 (by show X.A.units+1+eX ds<cLine;omega) r r' v1 v2 j (by simpa using g1) (by simpa using g2)) ⟨.bl _,H,I,rfl,?_⟩
  have zz:((List.range (min i1.toArray.size i2.toArray.size)).all (jT ds es)&&i1.toArray.size==i2.toArray.size)=ia ds es:=by
   rw [i8,i8,<- m1,<- m2,<- l1,<- l2]
   by_cases hl:ds.length=es.length
   ·rw [hl,acB,<- hl,pM hl];simp [hl]
   ·rw [pP hl,Mc.mpr hl,aab]
  rw [zz]
  exact q
theorem WW (hr:X.A.units+64<cLine):dv X (compareOp .NotEq) (yh X.K true):=by
 intro pins s σ H x y v u Q I rx ry h
 obtain ⟨d,e,hk,h1,h2,hd,q⟩:=h
 have bz:X.A.units<cLine:=by omega
 rcases hk with ⟨ds,es,rfl,rfl⟩ | ⟨ds,es,rfl,rfl⟩
 ·obtain ⟨a,xs,rfl,q1,r⟩:=h1
  obtain ⟨b,ys,rfl,q2,r'⟩:=h2
  cases rx
  cases ry
  obtain ⟨i1,v1,p1,_⟩:=I.list q1
  obtain ⟨i2,v2,p2,_⟩:=I.list q2
  have l1:=r.length
  have l2:=r'.length
  have m1:=v1.length
  have m2:=v2.length
  have kD:eX ds+1<=50:=hd
  by_cases hl:ds.length=es.length
  ·refine SeqAt.RcNeAt.lists (e:=jT ds es) p1.isList p2.isList (by simp;omega) bz (fun j g1 g2=>pT I ds es X.A.in1 xs ys i1 i2 (by show X.A.units+1+eX ds<cLine;omega) r r' v1 v2 j (by simpa using g1) (by simpa using g2)) _ _ _ _ ?_
   rw [i8,<- m1,<- l1,pM hl]
   exact ⟨.bl _,H,I,rfl,q⟩
  ·refine SeqAt.RcNeAt.lists_lengths p1.isList p2.isList (by simp;omega) bz _ _ _ _ ⟨.bl _,H,I,rfl,?_⟩
   have z:eQ (.lst ds) (.lst es)=false:=pP hl
   rw [z] at q
   exact q
 ·obtain ⟨a,xs,rfl,q1,r⟩:=h1
  obtain ⟨b,ys,rfl,q2,r'⟩:=h2
  cases rx
  cases ry
  obtain ⟨i1,v1,p1,_⟩:=I.tuple q1
  obtain ⟨i2,v2,p2,_⟩:=I.tuple q2
  have l1:=r.length
  have l2:=r'.length
  have m1:=v1.length
  have m2:=v2.length
  have kD:eX ds+1<=50:=hd
  refine SeqAt.RcNeAt.tuples (e:=jT ds es) p1 p2 bz (fun j g1 g2=>pT I ds es X.A.in1 xs ys i1 i2 (by show X.A.units+1+eX ds<cLine;omega) r r' v1 v2 j (by simpa using g1) (by simpa using g2)) _ _ _ _ ⟨.bl _,H,I,rfl,?_⟩
  have zz:((List.range (min i1.toArray.size i2.toArray.size)).all (jT ds es)&&i1.toArray.size==i2.toArray.size)=ia ds es:=by
   rw [i8,i8,<- m1,<- m2,<- l1,<- l2]
   by_cases hl:ds.length=es.length
   ·rw [hl,acB,<- hl,pM hl];simp [hl]
   ·rw [pP hl,Mc.mpr hl,aab]
  rw [zz]
  exact q
end
end L2
namespace L2
open PySem PySem.Spec PyProof.Rows
structure iC (K:Frag) (x qual:Str) (st:Stmt) (dV:Value) (f:Addr) (fd:FuncData):Prop where
 ex:∃ (oc:Value) (od:Option Addr) (kV doc pm:Value) (an:Option Addr) (az ct:Value) (gS:Array (Option Value)),
  fd=fnOf x qual (cJ st) (bR st) (aD st) dV kV doc pm an az ct/\K.lookup f=some ⟨oc,od,.func fd,gS⟩/\codeIn K az qual=true
 kp:keepIn K (.ref f)=true
structure Kn (P:Program) (w:World) (K:Frag) (mg:Str->Option Value) (base:Heap) (CX:fU) (k:Nat) (x:Str) (f:Addr) (fd:FuncData) (ps:List Str) (sp:Sp):Prop where
 ok:bc P w K mg base CX k f fd ps sp
 tP:mg x=some (.ref f)
 kp:keepIn K (.ref f)=true
 bd:Binds K fd ps []
section
variable {P:Program}{w:World}{K:Frag}{mg:Str->Option Value}{base:Heap}
theorem iC.ok {x qual:Str}{st:Stmt}{dV:Value}{f:Addr}{fd:FuncData}{N ps:List Str}{k:Nat}{sp:Sp}(F:iC K x qual st dV f fd)(S:cH N ps (aD st))(len:∀ vs H Q E,sp vs H Q E->vs.length=ps.length)(qf:∀ (az:Value) (A:Around) (outer:List Env) (s:Shared) (H:Hp) (vs:List V) (Q:VK) (E:XK),dk k (A.deeper (envOfC qual (aD st) s.heap.objs.size f az))->sp vs H Q E ->
   ∃ t,df (bj aG P w K mg base N qual (aD st) f az A outer s H E).du (bR st) t/\t { nx:=fun _ H'=>Q .aN H',rt:=Q } (start N vs) H):bc P w K mg base aG (k+1) f fd ps sp:=by
 obtain ⟨oc,od,kV,doc,pm,an,az,ct,gS,rfl,lk,ie⟩:=F.ex
 refine M9 lk ie S len fun A outer s H vs Q E hr jq=>?_
 obtain ⟨t,h,q⟩:=qf az A outer s H vs Q E hr jq
 exact ⟨t,h.du,q⟩
theorem Ln {x qual:Str}{st:Stmt}{dV:Value}{f:Addr}{oc:Value}{od an:Option Addr}{gS:Array (Option Value)}{kV doc pm az ct:Value}(l:K.lookup f=some ⟨oc,od,.func (fnOf x qual (cJ st) (bR st) (aD st) dV kV doc pm an az ct),gS⟩)(c:codeIn K az qual=true)(k:keepIn K (.ref f)=true):iC K x qual st dV f (fnOf x qual (cJ st) (bR st) (aD st) dV kV doc pm an az ct):=⟨⟨oc,od,kV,doc,pm,an,az,ct,gS,rfl,l,c⟩,k⟩
theorem iC.binds {x qual:Str}{st:Stmt}{dV:Value}{f:Addr}{fd:FuncData}{ps:List Str}(F:iC K x qual st dV f fd)(h:∀ (kV doc pm:Value) (an:Option Addr) (az ct:Value) (us:List Value),us.length=ps.length->bindArgs (fnOf x qual (cJ st) (bR st) (aD st) dV kV doc pm an az ct) ⟨us,[]⟩=pure (ps.zip us)):Binds K fd ps []:=by
 obtain ⟨oc,od,kV,doc,pm,an,az,ct,gS,rfl,lk,ie⟩:=F.ex
 exact .all (h kV doc pm an az ct)
end
section
variable {X:Cx}{CX:fU}{k:Nat}{f:Addr}{fd:FuncData}{ps:List Str}{sp:Sp}{E:XK}{x:Str}{p pos:Pos}{e:Expr}{es:List Expr}{t:TA}
theorem Ey (F:Kn X.prog X.w X.K X.mg X.base aG k x f fd ps sp)(hr:dk k X.A)(hg:Gl X x)(ha:PA X (e::es) t)(hdb:(x==("__debug__" : Str))=false:=by decide)(he:starEach (e::es) X.env=(false,eval e X.env)::starEach es X.env:=by rfl)(cv:(backTo pos (starEach es X.env)).any (·.1)=false:=by rfl) :
  PE X (.Call (.Name x p) (e::es) [] pos) (vo sp [] E0 t):=VM F.ok hr hg F.tP F.kp F.bd .nil XZ ha hdb he cv
end
def Ez (K:Frag):R2:=fun x y H Q=>∃ l b xs zs,x=.ref l/\y=.ref b/\aF K H l xs/\aF K H b zs/\xs.length+zs.length<=sizeLine/\∀ p,H p=none->Q (.ref p) (upd H p (.lst (xs++zs)))
section
variable {Y:Cx}{c:Expr}{tt:TT}
theorem X1 (pins:List (Addr×Obj))(s1:Shared)(ak:St)(H1:Hp)(Q:Bool->Hp->Prop)(I:Inv Y pins ak H1 s1)(h:Q true H1):wpAny (model Y.prog Y.w) Y.A (jL [] Y.env) (TP Y pins ak Q) cy s1 :=
 wb ⟨H1,I,h⟩
theorem Nc (ht:PT Y c tt)(hx:Y.xe=cy)(pins:List (Addr×Obj))(s1:Shared)(ak:St)(H1:Hp)(Q:Bool->Hp->Prop)(I:Inv Y pins ak H1 s1)(h:tt ak H1 Q):wpAny (model Y.prog Y.w) Y.A (jL [c] Y.env) (TP Y pins ak Q) cy s1:=by
 have z:=ht pins s1 ak H1 Q I h
 rw [hx] at z
 unfold jL
 rw [acS]
 simp only [acu]
 refine ba (ba (aj z fun b s2 q=>wb ?_))
 exact wb q
end
def VU:TT:=fun _ H Q=>Q true H
theorem sf {α β:Type}{f g : α->Option β}:∀ {l:List α},(∀ x ∈ l,f x=g x)->l.filterMap f=l.filterMap g
 |[],_=>rfl
 |x::r,h=>by rw [Lu,Lu,h x (.head _),sf (l:=r) fun y hy=>h y (.tail _ hy)]
section
variable {X:Cx}
theorem Lp:dv X (binaryOp .Add) (Ez X.K):=by
 intro pins s σ H x y v u Q I rx ry h
 obtain ⟨l,b,xs,zs,rfl,rfl,hH,hB,hz,q⟩:=h
 cases rx
 cases ry
 obtain ⟨its,r,⟨⟨cl,dd,da,sl⟩,n,e,c1,c2,d1⟩,z⟩:=I.list hH
 obtain ⟨iB,r2,⟨⟨cl2,dd2,da2,aL⟩,n2,e2,c3,c4,d2⟩,z2⟩:=I.list hB
 simp only at c1 d1 c3 d2
 subst c1 d1 c3 d2
 have l1:=r.length
 have l2:=r2.length
 refine concat_meets ⟨_,e,rfl⟩ ⟨_,e2,rfl⟩ noFill_list_add seq_list_add PySem.F.slot_list_add PySem.F.entry_list_add (PySem.F.args_list_add_2 _ _) (list_addW l b its.toArray iB.toArray n n2 dd dd2 sl aL (by simp;omega)) ⟨e,e2,?_⟩
 have ea:its.toArray++iB.toArray=(its++iB).toArray:=by simp
 rw [ea]
 exact ⟨.ref _,_,I.vB (t':=s.toks) (r.append r2) (by rw [ir];omega),rfl,q _ I.fresh⟩
end
end L2
namespace L2
open PySem
theorem gZ:bootBuiltins "isinstance" = some (.builtin "isinstance"):=by decide +kernel
theorem xB:bootBuiltins "len" = some (.builtin "len"):=by decide +kernel
theorem WX:bootBuiltins "all" = some (.builtin "all"):=by decide +kernel
theorem WY:bootBuiltins "any" = some (.builtin "any"):=by decide +kernel
theorem Mt:bootBuiltins "int" = some (.type "int"):=by decide +kernel
theorem VV:bootBuiltins "bool" = some (.type "bool"):=by decide +kernel
theorem vd:bootBuiltins "str" = some (.type "str"):=by decide +kernel
theorem Lr:bootBuiltins "list" = some (.type "list"):=by decide +kernel
theorem WZ:bootBuiltins "zip" = some (.type "zip"):=by decide +kernel
theorem SK:bootBuiltins "enumerate" = some (.type "enumerate"):=by decide +kernel
theorem Sa:bootBuiltins "ValueError" = some (.type "ValueError"):=by decide +kernel
end L2
namespace L2
open PySem PySem.Spec PyProof.Rows
def fB (cells:List (Str×Addr)):List (Str×NameKind)->List (Str×Addr)->List (Str×Addr)
 |[],cs=>cs
 |(n,k)::r,cs=>fB cells r (if k==.free then (n,(cells.lookup n).getD 0)::cs else cs)
theorem Ls {sc:Scope}{env:Env}(h:∀ p ∈ sc.names,p.2=.free->∃ c,env.cells.lookup p.1=some c):closureFor sc env=pure (fB env.cells sc.names []):=by
 have key:∀ (names:List (Str×NameKind)) (cs:List (Str×Addr)),(∀ p ∈ names,p.2=.free->∃ c,env.cells.lookup p.1=some c) ->
   (forIn names cs fun x t=>match x with
    |(name,kind)=>if (kind==NameKind.free)=true then do
       let a <- cellOf env name
       pure (ForInStep.yield ((name,a)::t))
      else pure (ForInStep.yield t))=(pure (fB env.cells names cs):Sem (List (Str×Addr))):=by
  intro names
  induction names with
  |nil=>intro cs _;rfl
  |cons p r ih =>
   intro cs hp
   obtain ⟨n,k⟩:=p
   rw [acS]
   cases hk:k==NameKind.free with
   |true =>
    obtain ⟨c,hc⟩:=hp (n,k) (.head _) (GG.mp hk)
    have fT:env.cells.lookup n=some c:=hc
    have e1:cellOf env n=pure c:=by unfold cellOf;rw [fT]
    have e2:fB env.cells ((n,k)::r) cs=fB env.cells r ((n,c)::cs):=by
     show fB env.cells r (if (k==NameKind.free)=true then _ else _)=_
     rw [hk,fT,Cn rfl]
     rfl
    rw [e2,<- ih ((n,c)::cs) fun q hq=>hp q (.tail _ hq)]
    simp only [hk,acu,e1]
    rfl
   |false =>
    have e2:fB env.cells ((n,k)::r) cs=fB env.cells r cs:=by
     show fB env.cells r (if (k==NameKind.free)=true then _ else _)=_
     rw [hk,AM (by decide)]
    rw [e2,<- ih cs fun q hq=>hp q (.tail _ hq)]
    simp only [hk,abX,acY]
    rfl
 simp only [closureFor]
 rw [key sc.names [] h]
 rfl
theorem Cp {cells:List (Str×Addr)}:∀ (names:List (Str×NameKind)) (cs:List (Str×Addr)),(∀ p ∈ names,p.2=.free->∃ c,cells.lookup p.1=some c)->(∀ y c,cs.lookup y=some c->cells.lookup y=some c) ->
  ∀ y c,(fB cells names cs).lookup y=some c->cells.lookup y=some c
 |[],_,_,h=>h
 |(n,k)::r,cs,hp,h=>by
  refine Cp r _ (fun q hq=>hp q (.tail _ hq)) fun y c e=>?_
  split at e
  ·rename_i hk
   obtain ⟨c0,hc⟩:=hp (n,k) (.head _) (GG.mp hk)
   have fT:cells.lookup n=some c0:=hc
   rw [Co] at e
   split at e
   ·rename_i hy
    have:y=n:=GG.mp hy
    subst this
    rw [fT] at e
    cases e
    exact fT
   ·exact h y c e
  ·exact h y c e
theorem JA {cells:List (Str×Addr)}:∀ (names:List (Str×NameKind)) (cs:List (Str×Addr)) (y:Str),(∃ c,cs.lookup y=some c)->∃ c,(fB cells names cs).lookup y=some c
 |[],_,_,h=>h
 |(n,k)::r,cs,y,⟨c,h⟩=>by
  refine JA r _ y ?_
  split
  ·rw [Co]
   split
   ·exact ⟨_,rfl⟩
   ·exact ⟨c,h⟩
  ·exact ⟨c,h⟩
theorem rW {cells:List (Str×Addr)}:∀ (names:List (Str×NameKind)) (cs:List (Str×Addr)) (y:Str),(y,NameKind.free) ∈ names->∃ c,(fB cells names cs).lookup y=some c
 |[],_,_,h=>nomatch h
 |(n,k)::r,cs,y,h=>by
  rcases gr.mp h with e | h
  ·have e1:y=n:=congrArg (·.1) e
   have e2:NameKind.free=k:=congrArg (·.2) e
   subst e1 e2
   refine JA r _ _ ?_
   rw [Cn (by decide),List.lookup_cons_self]
   exact ⟨_,rfl⟩
  ·exact rW r _ y h
theorem mem_of_lookup {κ β:Type} [BEq κ] [LawfulBEq κ]{l:List (κ×β)}{y : κ}{k : β}(h:l.lookup y=some k):(y,k) ∈ l:=by
 induction l with
 |nil=>cases h
 |cons p r ih =>
  obtain ⟨n,b⟩:=p
  rw [Co] at h
  split at h
  ·rename_i hy
   have:y=n:=GG.mp hy
   subst this
   cases h
   exact .head _
  ·exact .tail _ (ih h)
section
variable {CX:fU}{P:Program}{w:World}{K:Frag}{mg:Str->Option Value}{base:Heap}{N:List Str}{qual:Str}{av:Scope}{f:Addr}{cd:Value}{A:Around}{outer:List Env}{s:Shared}{H:Hp}{E:XK}{XE:Value->Shared->Prop}
structure DJ (N:List Str) (av sc:Scope) (fr:List Nat):Prop where
 kind:sc.kind=.function
 Nf:av.kind=.function
 W0:∀ y ∈ sc.names,y.2 ≠ .cell
 loc:∀ y ∈ sc.names,y.2=.local->sc.names.lookup y.1=some .local
 rg:∀ y ∈ sc.names,y.2=.free->av.names.lookup y.1=some .cell
 bg:∀ j ∈ fr,sc.names.lookup (N.getD j "")=some .free/\j<N.length
theorem rE {env:Env}:∀ {names:List (Str×NameKind)} {y:Str} {k:NameKind},(names.map fun (n,k)=>if (k==NameKind.free&&env.scope.kind==.function&&env.kindOf n==some .cell) then (n,NameKind.cell) else (n,k)).lookup y=some k ->
  ∃ k0,names.lookup y=some k0/\(k=k0\/(k=.cell/\k0=.free))
 |[],_,_,h=>by cases h
 |(n,k0)::r,y,k,h=>by
  rw [ES] at h
  simp only at h
  split at h
  ·rename_i hc
   rw [Co] at h ⊢
   split at h
   ·cases h
    simp only [DD,GG] at hc
    exact ⟨k0,rfl,.inr ⟨rfl,hc.1.1⟩⟩
   ·exact rE h
  ·rw [Co] at h ⊢
   split at h
   ·cases h
    exact ⟨k0,rfl,.inl rfl⟩
   ·exact rE h
theorem uf {env:Env}:∀ {names:List (Str×NameKind)} {y:Str},names.lookup y=some .free ->
  (names.map fun (n,k)=>if (k==NameKind.free&&env.scope.kind==.function&&env.kindOf n==some .cell) then (n,NameKind.cell) else (n,k)).lookup y=some .cell \/
  (names.map fun (n,k)=>if (k==NameKind.free&&env.scope.kind==.function&&env.kindOf n==some .cell) then (n,NameKind.cell) else (n,k)).lookup y=some .free
 |[],_,h=>by cases h
 |(n,k0)::r,y,h=>by
  rw [ES]
  rw [Co] at h
  simp only
  split at h
  ·rename_i hy
   cases h
   split
   ·left;rw [Co,hy]
   ·right;rw [Co,hy]
  ·rename_i hy
   split
   ·rw [Co,hy];exact uf h
   ·rw [Co,hy];exact uf h
structure UX (N:List Str) (av sc:Scope) (fr:List Nat):Prop where
 kind:sc.kind=.function
 Nf:av.kind=.function
 own:∀ y ∈ sc.names,y.2=.cell->∀ z ∈ sc.names,z.2=.free->z.1 ≠ y.1
 loc:∀ y ∈ sc.names,y.2=.local->sc.names.lookup y.1=some .local
 rg:∀ y ∈ sc.names,y.2=.free->av.names.lookup y.1=some .cell
 bg:∀ j ∈ fr,sc.names.lookup (N.getD j "")=some .free/\j<N.length
theorem BQ {cells:List (Str×Addr)}:∀ (names:List (Str×NameKind)) (cs:List (Str×Addr)) (y:Str),(∀ z ∈ names,z.2=.free->z.1 ≠ y)->cs.lookup y=none->(fB cells names cs).lookup y=none
 |[],_,_,_,h=>h
 |(n,k)::r,cs,y,hn,h=>by
  refine BQ r _ y (fun z hz=>hn z (.tail _ hz)) ?_
  split
  ·rename_i hk
   have ik:n ≠ y:=hn (n,k) (.head _) (GG.mp hk)
   have hb:(y==n)=false:=Mc.mpr fun e=>ik e.symm
   rw [Co,hb]
   exact h
  ·exact h
theorem zA {env:Env}:∀ {names:List (Str×NameKind)} {y:Str},names.lookup y=some .cell ->
  (names.map fun (n,k)=>if (k==NameKind.free&&env.scope.kind==.function&&env.kindOf n==some .cell) then (n,NameKind.cell) else (n,k)).lookup y=some .cell
 |[],_,h=>by cases h
 |(n,k0)::r,y,h=>by
  rw [ES]
  rw [Co] at h
  simp only
  split at h
  ·rename_i hy
   cases h
   rw [AM (by intro z;rw [DD,DD] at z;exact absurd z.1.1 (by decide)),Co,hy]
  ·rename_i hy
   split
   ·rw [Co,hy];exact zA h
   ·rw [Co,hy];exact zA h
theorem N7 {sc:Scope}{fr:List Nat}(L:UX N av sc fr):gy ((bj CX P w K mg base N qual av f cd A outer s H E).d9 XE) sc (fB (cellsFrom (s.heap.objs.size+1) av.names []) sc.names []) fr:=by
 have oy:∀ p ∈ sc.names,p.2=.free->∃ c,(cellsFrom (s.heap.objs.size+1) av.names []).lookup p.1=some c:=fun p hp e=>C6 (L.rg p hp e)
 refine ⟨Ls oy,L.kind,fun y hy=>BQ _ _ y (L.own _ hy rfl) rfl,L.loc,Cp _ _ oy (fun _ _ e=>nomatch e),fun y hy=>?_,fun j hj=>?_⟩
 ·have hk:sc.names.lookup y=some .free\/sc.names.lookup y=some .cell:=by
   rcases hy with hy | hy
   ·obtain ⟨k0,h1,h2⟩:=rE hy
    rcases h2 with h2 | ⟨_,h2⟩
    ·rw [<- h2] at h1;exact .inr h1
    ·rw [h2] at h1;exact .inl h1
   ·obtain ⟨k0,h1,h2⟩:=rE hy
    rcases h2 with h2 | ⟨h2,_⟩
    ·rw [<- h2] at h1;exact .inl h1
    ·cases h2
  exact hk.imp (fun q=>rW _ _ y (mem_of_lookup q)) mem_of_lookup
 ·obtain ⟨h1,h2⟩:=L.bg j hj
  have hm:=mem_of_lookup h1
  have h3:=L.rg _ hm rfl
  refine ⟨N.getD j "",?_,?_,.inr (.inl h3),?_,rW _ _ _ hm⟩
  ·show N[j]?=some (N.getD j "")
   rw [br,ar h2]
   rfl
  ·exact uf h1
  ·intro z
   have z':av.names.lookup (N.getD j "")=some .local:=z
   have h3':av.names.lookup (N.getD j "")=some .cell:=h3
   rw [h3'] at z'
   cases z'
theorem lcs {sc:Scope}{fr:List Nat}(L:DJ N av sc fr):gy ((bj CX P w K mg base N qual av f cd A outer s H E).d9 XE) sc (fB (cellsFrom (s.heap.objs.size+1) av.names []) sc.names []) fr :=
 N7 ⟨L.kind,L.Nf,fun y hy e=>absurd e (L.W0 y hy),L.loc,L.rg,L.bg⟩
theorem bQ {sc:Scope}{fr:List Nat}(a:sc.kind=.function:=by rfl)(b:av.kind=.function:=by rfl)(c:∀ y ∈ sc.names,y.2 ≠ .cell:=by decide +kernel)(d:∀ y ∈ sc.names,y.2=.local->sc.names.lookup y.1=some .local:=by decide +kernel)(e:∀ y ∈ sc.names,y.2=.free->av.names.lookup y.1=some .cell:=by decide +kernel)(g:∀ j ∈ fr,sc.names.lookup (N.getD j "")=some .free/\j<N.length:=by decide +kernel):gy ((bj CX P w K mg base N qual av f cd A outer s H E).d9 XE) sc (fB (cellsFrom (s.heap.objs.size+1) av.names []) sc.names []) fr:=lcs ⟨a,b,c,d,e,g⟩
end
structure Kp (N:List Str) (av sc:Scope) (fr:List Nat):Prop where
 kind:sc.kind=.function
 own:∀ y ∈ sc.names,y.2=.cell->∀ z ∈ sc.names,z.2=.free->z.1 ≠ y.1
 loc:∀ y ∈ sc.names,y.2=.local->sc.names.lookup y.1=some .local
 rg:∀ y ∈ sc.names,y.2=.free->av.names.lookup y.1=some .cell\/av.names.lookup y.1=some .free
 bg:∀ j ∈ fr,sc.names.lookup (N.getD j "")=some .free/\j<N.length
theorem YC {X:Cx}{ng:List Str}{nB:List Nat}{av:Scope}{oZ:List (Str×Addr)}{C:Addr}{s:Shared}{H:Hp}{ex:List Addr}{pn:List (Addr×Obj)}{sc:Scope}{fr:List Nat}(L:Kp (ng++nB.map fun j=>X.N.getD j "") av sc fr)(kI:∀ y,(y,NameKind.free) ∈ av.names->∃ c,oZ.lookup y=some c) :
  gy (bE X ng nB av oZ C s H ex pn) sc (fB (cellsFrom (C+1) av.names oZ) sc.names []) fr:=by
 have oy:∀ p ∈ sc.names,p.2=.free->∃ c,(cellsFrom (C+1) av.names oZ).lookup p.1=some c:=fun p hp e=>by
  rcases L.rg p hp e with q | q
  ·exact xA _ _ _ _ (mem_of_lookup q)
  ·exact uJ _ _ _ _ (kI _ (mem_of_lookup q))
 refine ⟨Ls oy,L.kind,fun y hy=>BQ _ _ y (L.own _ hy rfl) rfl,L.loc,Cp _ _ oy (fun _ _ e=>nomatch e),fun y hy=>?_,fun j hj=>?_⟩
 ·have hk:sc.names.lookup y=some .free\/sc.names.lookup y=some .cell:=by
   rcases hy with hy | hy
   ·obtain ⟨k0,h1,h2⟩:=rE hy
    rcases h2 with h2 | ⟨_,h2⟩
    ·rw [<- h2] at h1;exact .inr h1
    ·rw [h2] at h1;exact .inl h1
   ·obtain ⟨k0,h1,h2⟩:=rE hy
    rcases h2 with h2 | ⟨h2,_⟩
    ·rw [<- h2] at h1;exact .inl h1
    ·cases h2
  exact hk.imp (fun q=>rW _ _ y (mem_of_lookup q)) mem_of_lookup
 ·obtain ⟨h1,h2⟩:=L.bg j hj
  have hm:=mem_of_lookup h1
  have hv:(relabel av X.env).names.lookup ((ng++nB.map fun j=>X.N.getD j "").getD j "")=some .cell\/(relabel av X.env).names.lookup ((ng++nB.map fun j=>X.N.getD j "").getD j "")=some .free:=by
   rcases L.rg _ hm rfl with q | q
   ·exact .inl (zA q)
   ·exact uf q
  refine ⟨_,?_,uf h1,.inr hv,fun z=>?_,rW _ _ _ hm⟩
  ·show (ng++nB.map fun j=>X.N.getD j "")[j]?=some _
   rw [br,ar h2]
   rfl
  ·have z':(relabel av X.env).names.lookup ((ng++nB.map fun j=>X.N.getD j "").getD j "")=some .local:=z
   rcases hv with q | q<;>rw [q] at z'<;>cases z'
section
variable {g:TG}{tb:TS}{D:Ends}{σ:St}{H:Hp}{ta:TA}
theorem VW {hi:Int}(n:Nat)(h:∀ R:List V->Hp->Prop,R [.int hi] H->ta σ H R)(b : -(2 ^ 62)<=hi/\hi<2 ^ 62)(hn:hi.toNat=n)(Pv:Nat->St->Hp->Prop)(hp:Pv 0 σ H)(hs:∀ i σ H,i<n->Pv i σ H->g (.int (0+i)) σ H fun bB H2=>tb { D with nx:=Pv (i+1),ct:=Pv (i+1),bk:=D.nx } bB H2)(hd:∀ σ H,Pv n σ H->D.nx σ H):vz (xK ta) g tb D σ H :=
 h _ ⟨hi,rfl,b.1,b.2,by rw [hn];exact T6 Pv hp hs hd⟩
end
section
variable {X:Cx}{K:Frag}
theorem VX (h:X.K=K):tO X (Fe K):=h ▸ WQ
theorem Kq (h:X.K=K):tO X (qB K):=h ▸ xf
theorem Ud (h:X.K=K):fm X (.builtin "len") (fun xs H Q=>∃ p ys,xs=[.ref p]/\(aF K H p ys\/eM K H p ys)/\Q (.int ys.length) H):=h ▸ SE
end
theorem dD.there {P:Program}{w:World}{H:Hp}{h:Heap}{a:Addr}{o:HO}(x:dD P w H h a o):∃ u,h.get? a=some u:=by
 cases o with
 |lst xs=>obtain ⟨_,_,_,_,e⟩:=x;exact ⟨_,e⟩
 |tup xs=>obtain ⟨_,_,_,ob,e,_⟩:=x;exact ⟨_,e⟩
 |dK dH=>obtain ⟨_,_,_,_,o,_,_,e,_⟩:=x;exact ⟨_,e⟩
 |dT dH=>obtain ⟨_,_,_,_,o,_,_,e,_⟩:=x;exact ⟨_,e⟩
 |set S n=>obtain ⟨o,_,_,_,e,_⟩:=x;exact ⟨_,e⟩
 |ins C dx fs=>obtain ⟨_,_,_,e,_⟩:=x;exact ⟨_,e⟩
 |own y=>exact x
 |xd fs=>obtain ⟨_,⟨_,_,_,e,_⟩,_⟩:=x;exact ⟨_,e⟩
 |ic lo hi=>obtain ⟨_,_,_,e⟩:=x;exact ⟨_,e⟩
 |dt ob u=>obtain ⟨e,_⟩:=x;exact ⟨_,e⟩
 |j7 ps=>exact ⟨_,(show h.get? a=some _ from x)⟩
 |met f y=>exact ⟨_,(show h.get? a=some _ from x)⟩
 |ext φ => obtain ⟨_,e,_⟩:=x;exact e
structure oz (P:Program) (w:World) (outer:List Env) (H:Hp) (s:Shared) (x C:Addr) (H':Hp) (s':Shared):Prop where
 os:s'.os=s.os
 bare:AllBare s'.gens
 ex:∃ (B:Heap) (a0:Value),Heap.FlyingW B outer x (.ref C) a0 s'.heap/\cV P w H' B/\(∀ b o,s.heap.get? b=some o->H b=none->b ∉ bg outer->B.get? b=some o) /\
  (∀ b o,s.heap.get? b=some o->b ∉ bg outer->∃ o',B.get? b=some o')
 slot:∀ b o,s.heap.get? b=some o->b ∈ bg outer->∃ sl,s'.heap.get? b=some { o with slots:=sl }
 free:∀ b o,s.heap.get? b=some o->H b=none->H' b=none
 dJ:∀ b xs,H b=some (.tup xs)->H' b=some (.tup xs)
 dF:∀ b o u,H b=some (.dt o u)->H' b=some (.dt o u)
 dN:∀ b ps,H b=some (.j7 ps)->∃ more,H' b=some (.j7 (ps++more))
 du:H' x=none
def CXE (P:Program)(w:World):fU:=fun outer H s E e s'=>∃ x C H',e=.ref x/\oz P w outer H s x C H' s'/\E (.ref C) (some x) H'
section
variable {P:Program}{w:World}{outer:List Env}{H H':Hp}{s s':Shared}{x C:Addr}
theorem oz.un (f:oz P w outer H s x C H' s'):Un (bg outer) [] H H' s.heap s'.heap:=by
 obtain ⟨B,a0,fl,ok,kp,th⟩:=f.ex
 refine ⟨fun b o e n hb _=>fl.1 b o (kp b o e n hb),fun b o e n hb _=>f.slot b o e hb,fun b o e n _=>f.free b o e n,fun b o e _=>?_,f.dJ,f.dF,f.dN⟩
 by_cases hb:b ∈ bg outer
 ·obtain ⟨sl,q⟩:=f.slot b o e hb
  exact ⟨_,q⟩
 ·obtain ⟨o',q⟩:=th b o e hb
  exact ⟨o',fl.1 b o' q⟩
theorem oz.aq (f:oz P w outer H s x C H' s'):cV P w H' s'.heap:=by
 obtain ⟨B,a0,fl,ok,_⟩:=f.ex
 exact ok.kept fl.1
end
section
variable {X:Cx}{pins:List (Addr×Obj)}{σ:St}{H H':Hp}{s s':Shared}
theorem UY (I:Inv X pins σ H s):cV X.prog X.w H (hideAll s.heap (bg X.stack)):=fun a o e =>
 (I.aq a o e).hJ (fun b u hb q=>ab5 _ q fun hm=>by
  have n:=I.wW b hm
  rcases hb with z | z
  ·subst z;rw [n] at e;cases e
  ·rw [n] at z;cases z) (fun _ q=>q) fun _ _ q=>q
theorem Mu {l:List Env}:∀ env ∈ l,∀ a,env.frame=some a->a ∈ bg l:=fun env he a ha=>ID.mpr ⟨env,he,ha⟩
theorem Inv.Gq {x C:Addr}(I:Inv X pins σ H s)(f:oz X.prog X.w X.stack H s x C H' s'):Inv X pins σ H' s' :=
 I.sS f.os f.un f.aq f.bare fun b hb=>nomatch hb
end
abbrev dq:List Value:=[.type "ValueError",.type "Exception",.type "BaseException",.type "object"]
theorem Lv {K:Frag}{h:Heap}{C:Addr}{vT:List Value}{nid:String}(Z:K.In h)(q:excIn K C vT nid=true) :
  ∃ bm N nm qn bs hdct sn sub ab col dd k0 k1 k2 k3 k5 mN,h.get? C=some (excClassObj nm qn C N bs bm hdct sn sub ab col dd k0 k1 k2 k3 k5 nid)/\h.Ns N mN/\mN "__init__" = none/\OwnTail h vT bm:=by
 unfold excIn at q
 split at q
 next dd cd sl ho =>
  split at q
  next C' bm k0 k1 k2 k3 n k5 hm hs =>
   rw [DD,DD,DD,DD,DD] at q
   obtain ⟨⟨⟨⟨⟨q1,q2⟩,q3⟩,q4⟩,q5⟩,q6⟩:=q
   have e1:C'=C:=GG.mp q1
   have e2:n=nid:=GG.mp q2
   have e3:cd.hasDel=false:=by simpa using q3
   have e6:nsIn K cd.ns "__init__" = some none:=GG.mp q6
   subst e1 e2
   cases cd with
   |mk nm bs mro ns qn hd sn sub ab col del =>
    have e3':del=false:=e3
    have tQ:mro=.ref C'::bm:=hm
    subst e3' tQ
    have es:sl=#[k0,k1,k2,k3,some (.builtin n),k5]:=by
     cases sl with
     |mk l=>exact congrArg Array.mk hs
    subst es
    exact ⟨bm,ns,nm,qn,bs,hd,sn,sub,ab,col,dd,k0,k1,k2,k3,k5,_,Z _ _ ho,.of_isNs (PySem.W.isNs_of_in Z q5),PySem.W.nsMap_none_of_in Z q5 e6,PySem.W.tail_of_in Z q4⟩
  next=>cases q
 next=>cases q
def xg (CX:fU)(X:Cx)(E:St->XK):Prop:=∀ (pins:List (Addr×Obj)) (σ:St) (H:Hp) (s:Shared) (e:Value) (s':Shared),Inv X pins σ H s->CX X.stack H s (E σ) e s'->X.xe e s'
theorem Passes.s {CX:fU}{X:Cx}{E:XK}(h:Passes CX X E):xg CX X fun _=>E:=fun pins σ H s e s' I z=>h pins σ H s e s' I z
def ve (sp:Sp)(iD:List V)(E:St->XK)(t:TA):TE:=fun σ H Q=>t σ H fun vs H1=>sp (vs++iD) H1 Q (E σ)
section
variable {X:Cx}{CX:fU}{k:Nat}{f:Addr}{fd:FuncData}{ps:List Str}{sp:Sp}{iD:List V}{ds:List Value}{E:St->XK}{x:Str}{p pos:Pos}{e:Expr}{es:List Expr}{t:TA}
theorem C8 (F:bc X.prog X.w X.K X.mg X.base CX k f fd ps sp)(hr:dk k X.A)(hg:Gl X x)(hm:X.mg x=some (.ref f))(hk:keepIn X.K (.ref f)=true)(hb:Binds X.K fd ps ds)(hd:Vals iD ds)(hx:xg CX X E)(ha:PA X (e::es) t)(hdb:(x==("__debug__" : Str))=false:=by decide)(he:starEach (e::es) X.env=(false,eval e X.env)::starEach es X.env:=by rfl)(cv:(backTo pos (starEach es X.env)).any (·.1)=false:=by rfl) :
  PE X (.Call (.Name x p) (e::es) [] pos) (ve sp iD E t):=by
 intro pins s σ H Q I h
 refine US (pS I hg hm ?_ hdb)
 refine callWith_K (h₀:=X.base) I.ok.mod.nk hk (aj (ha pos pins s σ H _ I h) fun us s1 ⟨vs,H1,I1,r,q⟩=>⟨I1.cB,?_⟩) he cv
 have r2:Vals (vs++iD) (us++ds):=r.append hd
 have hl:(us++ds).length=ps.length:=by rw [<- r2.length];exact F.len _ _ _ _ q
 refine abH (YE (F.run X.A X.stack s1 H1 ⟨us,[]⟩ (us++ds) (vs++iD) Q (E σ) hr I1.yf (hb s1 us I1.cB hl) r2 q) fun r s' hq=>?_)
 cases r with
 |error e=>exact hx pins σ H1 s1 e s' I1 hq
 |ok fl =>
  cases fl with
  |ret u=>exact I1.after hq
  |next=>exact False.elim hq
  |brk=>exact False.elim hq
  |cont=>exact False.elim hq
end
abbrev Cx.jU (X:Cx)(XE:Value->Shared->Prop)(pn:List (Addr×Obj)):Cx:={ X with xe:=XE,pn:=pn }
abbrev Cx.suite (X:Cx)(v:Value):Cx:={ X with A:=X.A.mark (some v),calm:=false,xe:=fun _ _=>False }
theorem Inv.jU {X:Cx}{pins:List (Addr×Obj)}{σ:St}{H:Hp}{s:Shared}(I:Inv X pins σ H s)(XE:Value->Shared->Prop):Inv (X.jU XE (X.pn++pins)) [] σ H s :=
 ⟨⟨I.ok.mod,I.ok.kind,I.ok.glob,I.ok.blt,I.ok.above,I.ok.inj,I.ok.has,I.ok.lS,I.ok.hd,I.ok.frames,I.ok.j8,I.ok.qO,I.ok.bs,I.ok.iW,I.ok.lM,I.ok.m5,I.ok.eu,I.ok.gR⟩,I.os,I.bare,I.base,I.loc,I.cell,I.free,I.gJ,fun p hp=>I.pin p (by simpa using hp),I.aq,I.len⟩
theorem Inv.kq {X:Cx}{XE:Value->Shared->Prop}{pins mU:List (Addr×Obj)}{σ:St}{H:Hp}{s:Shared}(I:Inv (X.jU XE (X.pn++pins)) mU σ H s):Inv X pins σ H s :=
 ⟨⟨I.ok.mod,I.ok.kind,I.ok.glob,I.ok.blt,I.ok.above,I.ok.inj,I.ok.has,I.ok.lS,I.ok.hd,I.ok.frames,I.ok.j8,I.ok.qO,I.ok.bs,I.ok.iW,I.ok.lM,I.ok.m5,I.ok.eu,I.ok.gR⟩,I.os,I.bare,I.base,I.loc,I.cell,I.free,I.gJ,fun p hp=>I.pin p (rf _ hp),I.aq,I.len⟩
theorem Inv.suite {X:Cx}{pins:List (Addr×Obj)}{σ:St}{H:Hp}{s:Shared}(I:Inv X pins σ H s)(v:Value):Inv (X.suite v) pins σ H s :=
 ⟨⟨I.ok.mod,I.ok.kind,I.ok.glob,I.ok.blt,I.ok.above,I.ok.inj,I.ok.has,I.ok.lS,fun z=>Bool.noConfusion z,I.ok.frames,I.ok.j8,I.ok.qO,I.ok.bs,I.ok.iW,I.ok.lM,I.ok.m5,I.ok.eu,I.ok.gR⟩,I.os,I.bare,I.base,I.loc,I.cell,I.free,I.gJ,I.pin,I.aq,I.len⟩
theorem Inv.nW {X:Cx}{pins:List (Addr×Obj)}{σ:St}{H:Hp}{s:Shared}{v:Value}(I:Inv (X.suite v) pins σ H s)(hd:X.calm=true->X.A.handled=none):Inv X pins σ H s :=
 ⟨⟨I.ok.mod,I.ok.kind,I.ok.glob,I.ok.blt,I.ok.above,I.ok.inj,I.ok.has,I.ok.lS,hd,I.ok.frames,I.ok.j8,I.ok.qO,I.ok.bs,I.ok.iW,I.ok.lM,I.ok.m5,I.ok.eu,I.ok.gR⟩,I.os,I.bare,I.base,I.loc,I.cell,I.free,I.gJ,I.pin,I.aq,I.len⟩
def N8 (x C:Addr):HO:=.ext fun h=>∃ o vs,h.get? x=some o/\o.cls=.ref C/\o.data=.fields vs
theorem Inv.EA {X:Cx}{pins:List (Addr×Obj)}{σ:St}{H:Hp}{s:Shared}{x:Addr}{o:HO}(I:Inv X pins σ H s)(hx:H x=none)(h0:X.bW.heap.get? x=none)(hL:x ≠ X.env.locals)(hC:∀ y c,X.env.cells.lookup y=some c->c ≠ x)(hp:∀ p ∈ X.pn++pins,p.1 ≠ x)(ok:dD X.prog X.w (upd H x o) s.heap x o):Inv X pins σ (upd H x o) s:=by
 have keep:∀ b u,H b=some u->upd H x o b=some u:=fun b u q=>by rw [ay (jJ q hx)];exact q
 refine ⟨I.ok,I.os,I.bare,⟨I.base.keep,I.base.slot,fun b ob q n e=>?_,I.base.there,fun b xs q=>keep _ _ (I.base.dJ b xs q),fun b ob u q=>keep _ _ (I.base.dF b ob u q),fun b ps q=>?_⟩,I.loc,I.cell,by rw [ay (abc hL)];exact I.free,fun y c e=>by rw [ay (hC y c e)];exact I.gJ y c e,fun p P5=>?_,fun b u q=>?_,I.len⟩
 ·have:b ≠ x:=fun z=>by rw [z,h0] at q;cases q
  rw [ay this]
  exact I.base.free b ob q n e
 ·obtain ⟨more,e⟩:=I.base.dN b ps q
  exact ⟨more,keep _ _ e⟩
 ·obtain ⟨a,b,c,d,e⟩:=I.pin p P5
  exact ⟨a,by rw [ay (hp p P5)];exact b,c,d,e⟩
 ·by_cases hb:b=x
  ·subst hb
   rw [bT] at q
   cases q
   exact ok
  ·rw [ay hb] at q
   exact (I.aq b u q).hJ (fun _ _ _ z=>z) (fun c z=>keep _ _ z) fun c xs z=>keep _ _ z
theorem Jx {K:Frag}{M:Model}{A:Around}{E:Value->Shared->Prop}{s:Shared}{x C D:Addr}{o:Obj}{Q:Bool->Shared->Prop}(Z:K.In s.heap)(ho:s.heap.get? x=some o)(hc:o.cls=.ref C)(ht:typeIn K (.ref D)=some (.type "type"))(hD:isClsIn K D=true)(hb:subIn K (.ref D) (.type "BaseException")=some true)(hs:subIn K (.ref C) (.ref D)=some true)(h:Q true s) :
  wpAny M A (excMatches (.ref x) (.ref D)) Q E s:=by
 have L1:Looks M s.heap (typeOf (.ref D)) (.type "type"):=PySem.W.looks_typeIn Z ht
 have L2:Looks M s.heap (isType (.ref D)) true:=by
  unfold isClsIn PySem.W.clsIn at hD
  split at hD
  next c' d' P6 yv hk =>
   intro A' Q' E' s' k z
   unfold isType loadHead
   exact ba (acf (k _ _ (Z _ _ hk)) (wb z))
  next=>cases hD
 have L3:Looks M s.heap (isSubtype (.ref D) (.type "BaseException")) true:=PySem.W.looks_subIn Z hb
 have L4:Looks M s.heap (typeOf (.ref x)) (.ref C):=hc ▸ (Looks.ld ho).andThen .now
 have L5:Looks M s.heap (isSubtype (.ref C) (.ref D)) true:=PySem.W.looks_subIn Z hs
 obtain ⟨hh,g,d,tk,os⟩:=s
 have f:=tc_notTuple
 have L0:Looks M hh (isSubtype (.type "type") (.type "tuple")) false:=Looks.of_pure f
 unfold excMatches isExcClass isInstance
 repeat (first | lk | simp only [acS,List.forIn_nil,Bool.not_true,abX,acY,acu])
 exact h
def N9 (K:Frag)(D:Addr)(i:Nat)(tb:(St->XK)->TS)(th:TS):TS:=fun F σ H =>
 tb (fun ak c ax H1=>∃ x C,c=.ref C/\ax=some x/\subIn K (.ref C) (.ref D)=some true /\
  th { nx:=fun bB H2=>F.nx (bB.set i none) H2,rt:=F.rt,bk:=fun bB H2=>F.bk (bB.set i none) H2,ct:=fun bB H2=>F.ct (bB.set i none) H2 } (ak.set i (some (.ref x))) (upd H1 x (N8 x C))) F σ H
theorem Inv.oG {X:Cx}{pins:List (Addr×Obj)}{σ:St}{H:Hp}{s:Shared}{M:Model}{A:Around}{E:Value->Shared->Prop}{i:Nat}{n:Str}{pos:Pos}{Q:Unit->Shared->Prop}(I:Inv X pins σ H s)(hN:X.N.Nodup)(hi:X.N[i]?=some n)(hl:X.env.scope.names.lookup n=some .local)(h:∀ s',Inv X pins (σ.set i none) H s'->Q () s'):wpAny M A (do bindName X.env n .none;unbindBehindTheSuite X.env n pos) Q E s:=by
 obtain ⟨m,hn,hm⟩:=id I.loc
 refine wpAny_nameGoes_keeps hl hn (by rw [I.ok.kind];rfl) fun h' v vO hs=>h _ ?_
 have eB:H X.env.locals=none:=I.free
 have tM:∀ b o,X.bW.heap.get? b=some o->b ≠ X.env.locals:=fun b o e=>xp (rb (lp e) I.ok.above)
 refine ⟨I.ok,I.os,I.bare,⟨fun b o e k hb hx=>(hs.2 b (tM b o e)).trans (I.base.keep b o e k hb hx),fun b o e k hb hx=>?_,I.base.free,fun b o e hx=>?_,I.base.dJ,I.base.dF,I.base.dN⟩,⟨_,vO,fun j y u e1 e2 e3=>?_⟩,fun y c e=>?_,I.free,I.gJ,fun p hp=>?_,fun b ob e=>?_,by simpa using I.len⟩
 ·obtain ⟨sl,q⟩:=I.base.slot b o e k hb hx
  exact ⟨sl,(hs.2 b (tM b o e)).trans q⟩
 ·obtain ⟨o',q⟩:=I.base.there b o e hx
  exact ⟨o',(hs.2 b (tM b o e)).trans q⟩
 ·by_cases hj:j=i
  ·subst hj
   have dR:j < σ.length:=by rw [I.len];exact (gz.mp hi).1
   rw [EU dR] at e2
   cases e2
  ·rw [B0 (abc hj)] at e2
   obtain ⟨u',r',q⟩:=hm j y u e1 e2 e3
   refine ⟨u',r',?_⟩
   rcases q with ⟨k,e⟩ | ⟨k,c,e,z⟩
   ·refine .inl ⟨k,?_⟩
    have ne:y ≠ n:=fun e=>hj (C5 hN e1 (e ▸ hi))
    show (if y=n then v else m y)=some u'
    rw [AM ne]
    exact e
   ·exact .inr ⟨k,c,e,z.sameBut hs (I.nq y c e)⟩
 ·obtain ⟨w',z⟩:=I.cell y c e
  exact ⟨w',z.sameBut hs (I.nq y c e)⟩
 ·obtain ⟨e,k,ne,nf,d⟩:=I.pin p hp
  exact ⟨(hs.2 p.1 ne).trans e,k,ne,nf,d⟩
 ·refine (I.aq b ob e).hJ (fun c w' hc q=>(hs.2 c ?_).trans q) (fun _ q=>q) fun _ _ q=>q
  rintro rfl
  rcases hc with z | z
  ·rw [<- z,eB] at e;cases e
  ·rw [eB] at z;cases z
section
variable {X:Cx}{D:Addr}{i:Nat}{n x:Str}{np hpos pos:Pos}{body suite:List Stmt}{b₀:Stmt}{tb:(St->XK)->TS}{th:TS}{L:Addr}{outer:List Env}
theorem W2 (hN:X.N.Nodup)(hi:X.N[i]?=some n)(hl:X.env.scope.names.lookup n=some .local)(dQ:X.stack=X.env::outer)(eB:X.env.frame=some L)(hex:X.ex=[])(hg:Gl X x)(hm:X.mg x=some (.ref D))(ht:typeIn X.K (.ref D)=some (.type "type"))(hD:isClsIn X.K D=true)(hb:subIn X.K (.ref D) (.type "BaseException")=some true)(DK:∀ (E:St->XK) (XE:Value->Shared->Prop) (pn:List (Addr×Obj)),xg (CXE X.prog X.w) (X.jU XE pn) E->df (X.jU XE pn) body (tb E))(C9:∀ v,df (X.suite v) (b₀::suite) th)(hdb:(x==("__debug__" : Str))=false:=by decide) :
  PS X (.Try body [.ExceptHandler (some (.Name x np)) (some n) (b₀::suite) hpos] [] [] pos) (N9 X.K D i tb th):=by
 intro pins s σ H F I h
 refine wpAny_Try_except ?_
 let XE:Value->Shared->Prop:=fun e bf=>wpAny (model X.prog X.w) X.A (noteFrame e X.env) (fun _ je=>wpAny (model X.prog X.w) X.A (setFlight e none) (fun _ tj =>
  wpAny (model X.prog X.w) X.A (handleBy e X.env [.ExceptHandler (some (.Name x np)) (some n) (b₀::suite) hpos]) (SP X pins F) X.xe tj) X.xe je) X.xe bf
 have EB:=DK _ XE (X.pn++pins) ?pass [] s σ H F (I.jU XE) h
 case pass =>
  rintro mU ak H1 s1 ev s' I1 ⟨a,C,H',rfl,fl,a',C',e1,e2,vC,rh⟩
  cases e1
  cases e2
  have I2:Inv X pins ak H' s':=(I1.Gq fl).kq
  have kJ:Inv X pins ak H1 s1:=I1.kq
  obtain ⟨B,a0,fw,ok,kp,vU⟩:=fl.ex
  have yE:Heap.FlyingW B (X.env::outer) a (.ref C) a0 s'.heap:=dQ ▸ fw
  show wpAny (model X.prog X.w) X.A (noteFrame (.ref a) X.env) _ _ _
  refine wpAny_looks_onW (dQ ▸ I.ok.frames) eB yE fun tm uK qk=>?_
  refine wpAny_landsW uK fun tq mV qo=>?_
  have next:∀ h6,Heap.FlyingW B (X.env::outer) a (.ref C) a0 h6->s'.heap.UpToSlots h6->Inv X pins ak H' { s' with heap:=h6 }:=fun h6 Gr rj=>by
   have Gs:s'.heap.FunFrames B X.stack:=fw.2.2.1
   refine kJ.Gq (x:=a) (C:=C) ⟨fl.os,fl.bare,⟨B,a0,dQ ▸ Gr,ok,kp,vU⟩,fun b o q hb=>?_,fl.free,fl.dJ,fl.dF,fl.dN,fl.du⟩
   obtain ⟨sl,q1⟩:=fl.slot b o q hb
   obtain ⟨_,o2,dw,hd2⟩:=Gs.mem hb
   rw [q1] at dw
   cases dw
   obtain ⟨aL,q2⟩:=rj b _ q1 hd2
   exact ⟨aL,q2⟩
  have I5:=next tq mV (qk.trans qo)
  obtain ⟨oe,he,Gu⟩:=mV.there
  refine wpAny_handleBy_cons (codeAny_handlers_test ?_) (by intro q;cases q)
  refine SO I.ok.kind hg (abR (by rw [I.ok.glob];exact I5.mod.glob.keeps I5.bk) hm ?_) hdb
  refine Jx (K:=X.K) I5.cB he Gu ht hD hb vC ?_
  refine codeAny_handlers_suite_as ?_
  refine lands_againW mV fun lN mW vp=>?_
  have I6:=next lN mW ((qk.trans qo).trans vp)
  obtain ⟨tR,yF,o7,Gv,tS,h06⟩:=mW.first
  have ka:∀ b o,s1.heap.get? b=some o->b ≠ a:=fun b o q z=>by
   subst z
   by_cases hb:b ∈ bg X.stack
   ·obtain ⟨_,o2,dw,hd2⟩:=(show lN.FunFrames B X.stack from dQ ▸ mW.2.2.1).mem hb
    rw [o7] at dw
    cases dw
    exact hd2 _ tS
   ·obtain ⟨o',q'⟩:=vU b o q hb
    rw [fw.2.1] at q'
    cases q'
  have h0:X.bW.heap.get? a=none:=by
   cases q:X.bW.heap.get? a with
   |none=>rfl
   |some o =>
    obtain ⟨o',q'⟩:=kJ.base.there a o q (by rw [hex];simp)
    exact absurd rfl (ka a o' q')
  have I7:Inv X pins ak (upd H' a (N8 a C)) { s' with heap:=lN }:=by
   refine I6.EA fl.du h0 (fun z=>?_) (fun y c e z=>?_) (fun p hp z=>?_) ⟨⟨tR,yF,o7,Gv,tS⟩,⟨tR,o7⟩,fun h1 h2 ⟨o,vs,q1,q2,q3⟩ k=>⟨o,vs,k _ q1,q2,q3⟩⟩
   ·obtain ⟨m,⟨o,_,_,ho,_⟩,_⟩:=kJ.loc
    exact ka _ o ho z.symm
   ·obtain ⟨v,o,ho,_⟩:=kJ.cell y c e
    exact ka c o ho z
   ·exact ka p.1 p.2 (kJ.pin p hp).1 z
  refine wH I7 hN hi (.inl hl) (v:=.ref a) rfl (fun s8 I8=>?_) (.inr hl)
  refine ET (C9 (.ref a) pins s8 _ _ _ (I8.suite (.ref a)) rh) (fun rk s9 hq=>?_) (fun _ _ z=>False.elim z)
  have nC:X.calm=true->X.A.handled=none:=I.ok.hd
  cases rk with
  |next =>
   obtain ⟨bG,H9,I9,q9⟩:=hq
   exact (I9.nW nC).oG hN hi hl fun iG ef=>⟨_,_,ef,q9⟩
  |brk =>
   obtain ⟨bG,H9,I9,q9⟩:=hq
   exact (I9.nW nC).oG hN hi hl fun iG ef=>⟨_,_,ef,q9⟩
  |cont =>
   obtain ⟨bG,H9,I9,q9⟩:=hq
   exact (I9.nW nC).oG hN hi hl fun iG ef=>⟨_,_,ef,q9⟩
  |ret u =>
   obtain ⟨v,bG,H9,I9,r9,q9⟩:=hq
   exact (I9.nW nC).oG hN hi hl fun iG ef=>⟨v,_,_,ef,r9,q9⟩
 refine ET EB (fun rk s9 hq=>?_) (fun e s9 z=>z)
 cases rk with
 |next =>
  obtain ⟨bG,H9,I9,q9⟩:=hq
  exact abS ⟨bG,H9,I9.kq,q9⟩
 |brk =>
  obtain ⟨bG,H9,I9,q9⟩:=hq
  exact ⟨bG,H9,I9.kq,q9⟩
 |cont =>
  obtain ⟨bG,H9,I9,q9⟩:=hq
  exact ⟨bG,H9,I9.kq,q9⟩
 |ret u =>
  obtain ⟨v,bG,H9,I9,r9,q9⟩:=hq
  exact ⟨v,bG,H9,I9.kq,r9,q9⟩
end
end L2
namespace L2
open PySem PySem.Spec PyProof.Rows PySem.W PySem.Builtin PySem.Builtin.ObjectAttr PySem.Builtin.Getset_descriptor
structure gP (K:Frag) (C:Addr):Prop where
 ga:findIn K (.ref C) "__getattribute__" = some (some (.builtin "BaseException.__getattribute__"))
 gt:findIn K (.ref C) "__getattr__" = some none
 cl:findIn K (.ref C) "__class__" = some (some (.builtin "object.__class__"))
 sp:specialIn K (.builtin "object.__class__") "__get__" = some (some (.builtin "getset_descriptor.__get__"))
 tk:takesIn K (.builtin "object.__class__")=some true
 ob:mroIn K C (.type "object")=some true
 is:isClsIn K C=true
 bx:mroIn K C (.type "BaseException")=some true
def ExcAt (x C:Addr)(h:Heap):Prop:=∃ o vs,h.get? x=some o/\o.cls=.ref C/\o.data=.fields vs
section
variable {K:Frag}{x C:Addr}
theorem ExcAt.ty {M:Model}{h:Heap}(p:ExcAt x C h):Looks M h (typeOf (.ref x)) (.ref C):=by
 obtain ⟨o,vs,ho,hc,_⟩:=p
 exact hc ▸ (Looks.ld ho).andThen .now
theorem gP.YD {M:Model}{h:Heap}(a:gP K C)(Z:K.In h):Looks M h (isType (.ref C)) true:=by
 have hD:=a.is
 unfold isClsIn clsIn at hD
 split at hD
 next c' d' P6 yv hk =>
  intro A' Q' E' s' k z
  unfold isType loadHead
  exact ba (acf (k _ _ (Z _ _ hk)) (wb z))
 next=>cases hD
theorem gP.found {M:Model}{h:Heap}(a:gP K C)(Z:K.In h):Looks M h (find (.ref x) (.ref C) "__class__") (.bind (.builtin "getset_descriptor.__get__") (.builtin "object.__class__")):=by
 have L1:=abK (M:=M) Z a.cl
 have L2:Looks M h (getOf (some (.builtin "object.__class__"))) (some (.builtin "getset_descriptor.__get__")):=looks_specialIn Z a.sp
 have L3:=looks_takesIn (M:=M) Z a.tk
 refine L1.andThen (L2.andThen ?_)
 have L4:Looks M h (dataDescriptor? (some (.builtin "object.__class__")) (some (.builtin "getset_descriptor.__get__"))) (some (.builtin "getset_descriptor.__get__",.builtin "object.__class__")):=L3.andThen .now
 exact L4.andThen (Looks.tag .now)
variable {prog:Program}{w:World}{A:Around}{E:Value->Shared->Prop}{s:Shared}
theorem gP.got {tp:Value}{R:Result->Shared->Prop}(a:gP K C)(Z:K.In s.heap)(p:ExcAt x C s.heap)(h:R (.ok (.ret (.ref C))) s) :
  codeAny (model prog w) A (.call (.builtin "getset_descriptor.__get__") ⟨[.builtin "object.__class__",.ref x,tp],[]⟩) R s:=by
 obtain ⟨hp,gn,dr,tt,oo⟩:=s
 have T0:=p.ty (M:=model prog w)
 have T1:=looks_mroIn (M:=model prog w) Z a.ob
 refine Po KF.slot_gs.plain KF.entry_gs (KF.slot_gs.check _ _ _ _ _ _ _ _ KF.type_class (KF.args_gs _ _ _) ?_)
 unfold Builtin.«getset_descriptor.__get__» descrGet
 rw [dga_obj]
 refine ba (wb ?_)
 unfold descrGetter descrCheckInstance
 unfold descrNameAndClass isInstance
 simp only [KF.owner_class]
 repeat lk
 refine ⟨abY _ (by decide +kernel),abt KF.entry_class ?_⟩
 unfold Builtin.«object.__class__» shownTypeOf
 repeat lk
 exact h
theorem gP.check {M:Model}{nv:Value}{Q:Unit->Shared->Prop}(a:gP K C)(Z:K.In s.heap)(p:ExcAt x C s.heap)(h:Q () s):wpAny M A (checkBuiltinCall "BaseException.__getattribute__" ⟨[.ref x,nv],[]⟩) Q E s:=by
 obtain ⟨hp,gn,dr,tt,oo⟩:=s
 have T0:=p.ty (M:=M)
 have T1:=looks_mroIn (M:=M) Z a.bx
 have hk:builtinKind "BaseException.__getattribute__" = some .slot:=by decide +kernel
 have hs:splitId "BaseException.__getattribute__" = some ("BaseException", "__getattribute__"):=by decide +kernel
 have ha:=F.args_bexc_ga (.ref x) nv
 simp only [checkBuiltinCall,hk,hs]
 refine ba ?_
 unfold isInstance
 repeat (first | lk | wp_step)
 exact h
theorem gP.entry {tk:Tok}{Q:Fin->Shared->Prop}(a:gP K C)(Z:K.In s.heap)(p:ExcAt x C s.heap)(h:Q (.done (.ret (.ref C))) s):wpAny (model prog w) A (Builtin.«object.__getattribute__» ⟨[.ref x,.str "__class__" tk],[]⟩) Q E s:=by
 obtain ⟨hp,gn,dr,tt,oo⟩:=s
 have T0:=p.ty (M:=model prog w)
 have T3:=a.found (M:=model prog w) (x:=x) Z
 unfold Builtin.«object.__getattribute__»
 repeat (first | (with_reducible refine Looks.at (by assumption) ?_) | wp_step)
 refine a.got (s:=⟨hp,gn,dr,tt,oo⟩) Z p ?_
 repeat (first | assumption | wp_step)
theorem gP.attr {Q:Option Value->Shared->Prop}(a:gP K C)(Z:K.In s.heap)(p:ExcAt x C s.heap)(h:Q (some (.ref C)) { s with toks:=s.toks+1 }):wpAny (model prog w) A (getAttr? (.ref x) "__class__") Q E s:=by
 obtain ⟨hp,gn,dr,tt,oo⟩:=s
 have T0:=p.ty (M:=model prog w)
 have T1:=abK (M:=model prog w) Z a.ga
 have T2:=abK (M:=model prog w) Z a.gt
 have hb:=ab9.ga.bind (.ref x)
 have nD:(onTheHeap (Value.ref C)&&Value.builtin "BaseException.__getattribute__" == Value.builtin "object.__getattribute__")=false:=by
  rw [show (Value.builtin "BaseException.__getattribute__" == Value.builtin "object.__getattribute__")=false by decide +kernel]
  rfl
 unfold getAttr? getAttrBy?
 unfold getAttrBy
 refine ba (wpAny_mkText (ba (acr (LB (ba (T0.at (ba (T1.at ?_))))))))
 simp only [nD,abX,acY]
 unfold getAttrByItsOwn
 refine ba (show wpAny _ _ (typeLookup (.ref C) "__getattr__") _ _ _ from T2.at ?_)
 refine ba (acr (LB ?_))
 show wpAny _ _ (boundAndCalled (.builtin "BaseException.__getattribute__") (.ref x) _) _ _ _
 unfold boundAndCalled
 rw [hb]
 refine ba (wb (abH (Po ab9.ga.plain F.entry_bexc_ga (a.check Z p (a.entry Z p ?_)))))
 exact handed_on rfl (wb h)
theorem UZ (a:gP K C):KitX K (.ref x) (.ref C) (ExcAt x C) where
 ty:=fun _ _ _ p=>p.ty
 it:=fun _ _ Z _=>a.YD Z
 ne:=fun h tp dd its n sl Z htp=>by
  refine Bool.eq_false_iff.mpr fun q=>?_
  have e:C=tp:=Value.ref.inj (GG.mp q)
  subst e
  have hD:=a.is
  unfold isClsIn clsIn at hD
  split at hD
  next c' d' P6 yv hk =>
   have z:=(Z _ _ hk).symm.trans htp
   cases z
  next=>cases hD
 ca:=fun Z p k=>a.attr Z p k
end
end L2
namespace L2
open PySem PySem.Spec PyProof.Rows
theorem ai.tup {K:Frag}{H H':Hp}{a:Addr}{xs:List V}(e:ai H H')(h:eM K H a xs):eM K H' a xs:=by
 rcases h with (h | ⟨o,h⟩) | h
 ·exact .inl (.inl (e _ _ h))
 ·exact .inl (.inr ⟨o,e _ _ h⟩)
 ·exact .inr h
theorem ai.upd {H H':Hp}{p:Addr}{o:HO}(e:ai H H')(hp:H p=none):ai H (L2.upd H' p o):=fun b u h=>by
 rw [ay (jJ h hp)];exact e b u h
theorem ai.new {H:Hp}{p:Addr}{o:HO}(hp:H p=none):ai H (L2.upd H p o):=(ai.refl H).upd hp
theorem fg {a:Int}(h0 : 0<=a)(h:a<2 ^ 60):a.natAbs<2 ^ 8000:=by
 have big:(2:Nat) ^ 60<2 ^ 8000:=Nat.pow_lt_pow_right (by decide) (by decide)
 omega
section
variable {P:Program}{w:World}{K:Frag}{mg:Str->Option Value}{base:Heap}
theorem cE.d {x qual:Str}{st:Stmt}{f:Addr}{fd:FuncData}(F:cE K x qual st f fd):iC K x qual st .none f fd:=⟨F.ex,F.kp⟩
end
theorem PS.du {X:Cx}{st:Stmt}{t:TS}(h:PS X.du st t):PS X st t:=fun pins s σ H D I hw =>
 ET (h pins s σ H D (I.d9 _) hw) (fun _ _ q=>q.gj) fun _ _ z=>False.elim z
end L2
namespace L2
open PySem
section
variable {X:Cx}
def Lw:V->List V->Hp->VK->Prop:=fun x vs H Q=>∃ z y,x=.str z/\vs=[.str y]/\Q (.bl (Txt.startswith z y)) H
theorem Ue:nu X "str.startswith" Lw:=by
 intro pins s σ H x vs v us Q I rx rv h
 obtain ⟨z,y,rfl,rfl,q⟩:=h
 obtain ⟨t,rfl⟩:=rx
 obtain ⟨u,rfl,ru⟩:=rv.one
 obtain ⟨tu,rfl⟩:=ru
 exact SC.startswith ⟨.bl _,H,I,rfl,q⟩
theorem Lx {ys:List Str}{its:List Value}(r:Vals (ys.map V.str) its):PyProof.Rows.StrsAre its ys:=by
 induction ys generalizing its with
 |nil=>cases r;exact .nil
 |cons y ys ih =>
  cases r with
  |cons r1 rr =>
   obtain ⟨t,rfl⟩:=r1
   exact .cons _ _ (ih rr)
end
end L2
namespace L2
open PySem PySem.Spec PyProof.Rows
section
variable {X:Cx}{tg:Expr}
def Gw (x:PySem.Str):It:=⟨fun i _=>i<x.cps.size,fun i H v H'=>H'=H/\∃ c,x.cps[i]?=some c/\v=.str ⟨#[c]⟩,fun i _=>x.cps.size<=i⟩
theorem Tp {P:Program}{w:World}{K:Frag}{tg:Expr}(x:PySem.Str)(t:Tok)(it:Addr):Turn P w K tg (Gw x) [it] it (fun i h=>h.IsStrIter it "str_ascii_iterator" x t i) where
 mem:=by simp
 obj:=fun i h st b hb=>by
  have e:b=it:=by simpa using hb
  subst e
  obtain ⟨o,e,c,d⟩:=st
  exact ⟨o,e,fun v z=>by rw [d] at z;cases z⟩
 keep:=fun i h h' st k=>let ⟨o,ho,r⟩:=st;⟨o,k it (by simp) o ho,r⟩
 item:=by
  intro X hP hw hK hc i pins s σ H E I hf st hg
  subst hP hw hK
  have rn:i<x.cps.size:=hg
  obtain ⟨f0,f1,f2,f3,f4,f5⟩:=hf it (by simp)
  refine wpAny_pyNext_ascii_item st (c:=x.cps[i]) (by simp [rn]) fun h' jm sb=>?_
  have I1:Inv X pins σ H { s with heap:=h',toks:=s.toks+1 }:=I.turned (fun b o hb e=>sb.extBut b o hb e) f0 f1 f3 f4 f5
  obtain ⟨o,e,c,d⟩:=id jm
  exact ⟨_,rfl,vm (s:={ s with heap:=h',toks:=s.toks+1 }) e c d (by decide) ⟨.str ⟨#[x.cps[i]]⟩,H,I1,⟨_,rfl⟩,⟨rfl,_,by simp [rn],rfl⟩,jm,fun b hb=>(hf b hb).1⟩⟩
 done:=by
  intro X hP hw hK hc i pins s σ H E I hf st hg
  subst hP hw hK
  have rn:x.cps.size<=i:=hg
  obtain ⟨f0,f1,f2,f3,f4,f5⟩:=hf it (by simp)
  exact wpAny_pyNext_ascii_end (I.ok.hd hc) st (by simp;omega) fun h' eb=>⟨rfl,I.turned (t':=s.toks) (fun b o hb e=>eb b o hb e) f0 f1 f3 f4 f5⟩
 self:=fun _ _ _ _ _ st h=>wpAny_pyIter_striter_ascii st h
theorem Ug {P:Program}{w:World}{K:Frag}{tg:Expr}(x:PySem.Str)(t:Tok)(it:Addr):Turn P w K tg (Gw x) [it] it (fun i h=>h.IsStrIter it "str_iterator" x t i) where
 mem:=by simp
 obj:=fun i h st b hb=>by
  have e:b=it:=by simpa using hb
  subst e
  obtain ⟨o,e,c,d⟩:=st
  exact ⟨o,e,fun v z=>by rw [d] at z;cases z⟩
 keep:=fun i h h' st k=>let ⟨o,ho,r⟩:=st;⟨o,k it (by simp) o ho,r⟩
 item:=by
  intro X hP hw hK hc i pins s σ H E I hf st hg
  subst hP hw hK
  have rn:i<x.cps.size:=hg
  obtain ⟨f0,f1,f2,f3,f4,f5⟩:=hf it (by simp)
  refine wpAny_pyNext_wide_item st (c:=x.cps[i]) (by simp [rn]) fun h' jm sb=>?_
  have I1:Inv X pins σ H { s with heap:=h',toks:=s.toks+1 }:=I.turned (fun b o hb e=>sb.extBut b o hb e) f0 f1 f3 f4 f5
  obtain ⟨o,e,c,d⟩:=id jm
  exact ⟨_,rfl,vm (s:={ s with heap:=h',toks:=s.toks+1 }) e c d (by decide) ⟨.str ⟨#[x.cps[i]]⟩,H,I1,⟨_,rfl⟩,⟨rfl,_,by simp [rn],rfl⟩,jm,fun b hb=>(hf b hb).1⟩⟩
 done:=by
  intro X hP hw hK hc i pins s σ H E I hf st hg
  subst hP hw hK
  have rn:x.cps.size<=i:=hg
  obtain ⟨f0,f1,f2,f3,f4,f5⟩:=hf it (by simp)
  exact wpAny_pyNext_wide_end (I.ok.hd hc) st (by simp;omega) fun h' eb=>⟨rfl,I.turned (t':=s.toks) (fun b o hb e=>eb b o hb e) f0 f1 f3 f4 f5⟩
 self:=fun _ _ _ _ _ st h=>wpAny_pyIter_striter_wide st h
def Oa (tl:TE):TI:=fun σ H R=>tl σ H fun v H1=>∃ x,v=.str x/\R (Gw x) H1
theorem W3 {l:Expr}{tl:TE}(hl:PE X l tl):PI X tg l (Oa tl):=by
 intro pins s σ H R I h
 refine aj (hl pins s σ H _ I h) fun v s1 ⟨x,H1,I1,r1,q1⟩=>?_
 obtain ⟨x,rfl,q⟩:=q1
 obtain ⟨t,rfl⟩:=r1
 have fin:∀ b ∈ [s1.heap.objs.size],eW X pins H1 b:=fun b hb=>by
  have e:b=s1.heap.objs.size:=by simpa using hb
  subst e
  exact I1.oE (ee _) (I1.aq.fresh (ee _))
 cases ha:x.cps.all (· < 128)
 ·exact wpAny_pyIter_wide ha ⟨s1.heap.objs.size,[s1.heap.objs.size],_,_,H1,rfl,I1.kept (t':=s1.toks) fun b o e=>gc _ e,Ug x t _,⟨_,ze _ rfl,rfl,rfl⟩,fin,q⟩
 ·exact wpAny_pyIter_ascii ha ⟨s1.heap.objs.size,[s1.heap.objs.size],_,_,H1,rfl,I1.kept (t':=s1.toks) fun b o e=>gc _ e,Tp x t _,⟨_,ze _ rfl,rfl,rfl⟩,fin,q⟩
theorem Sb:fm X (.type "int") (fun xs H Q=>∃ x n,xs=[.str x]/\intText? x=some n/\x.length<=640/\Q (.int n) H):=by
 intro pins s σ H xs us Q I r h
 obtain ⟨x,n,rfl,hn,hl,q⟩:=h
 obtain ⟨u,rfl,t,rfl⟩:=vals1 r
 exact PySem.W.KIN.call_text hn hl ⟨.int n,H,I.tok _,⟨_,rfl⟩,q⟩
theorem Kr {bs:List Bool}{its:List Value}(r:Vals (bs.map V.bl) its):PyProof.Rows.LSm.BoolsAre its bs:=by
 induction bs generalizing its with
 |nil=>cases r;exact .nil
 |cons y ys ih =>
  cases r with
  |cons r1 rr =>
   cases r1
   exact .cons _ (ih rr)
def Ob (K:Frag):List V->Hp->VK->Prop:=fun xs H Q=>∃ (p:Addr) (bs:List Bool),xs=[.ref p]/\aF K H p (bs.map V.bl)/\Q (.bl (bs.all id)) H
theorem U0 (hc:X.calm=true):fm X (.builtin "all") (Ob X.K):=by
 intro pins s σ H xs us Q I r h
 obtain ⟨p,bs,rfl,hq,q⟩:=h
 cases r with
 |cons r1 rr =>
  cases rr
  cases r1
  obtain ⟨its,rv,pl,hz⟩:=I.list hq
  have hb:=Kr rv
  have hl:s.heap.IsList p its.toArray:=pl.isList
  have dR:p<s.heap.objs.size:=by obtain ⟨_,e,_⟩:=hl;exact lp e
  refine call_all_walk (ab6 hl ?_)
  refine ⟨s.heap.objs.size,[s.heap.objs.size,p],[s.heap.objs.size],its.toArray.size,_,_,fun i=>(bs[i]?).getD true,rfl,Walks.list (A:=X.A.in1) (I.ok.hd hc) _ p (xp dR) its.toArray,
   ⟨⟨_,ze _ rfl,rfl,rfl⟩,hl.push _⟩,fun i v s' Q' E' hP hQ=>?_,fun h' tk hk=>?_⟩
  ·obtain ⟨b,e,rfl⟩:=hb.get i v (by simpa using hP)
   simp only [e,acN] at hQ
   exact WI hQ
  ·have e:((List.range its.toArray.size).all fun i=>(bs[i]?).getD true)=bs.all id:=by
    rw [i8,hb.length];exact LSm.range_all bs
   rw [e]
   exact ⟨.bl _,H,I.kept (t':=tk) (LSm.kept_iter hk),rfl,q⟩
def Oc:V->Option Int->Option Int->Hp->VK->Prop:=fun x lo hi H Q=>∃ z,x=.str z/\(StrLaws.sliceText z lo hi).length<=sizeLine/\Q (.str (StrLaws.sliceText z lo hi)) H
theorem part_of {v:Value}{lo:Option Int}(h:IsPart v lo):∃ l:Option (Int×Tok),v=partValue l/\l.map (·.1)=lo:=by
 cases h with
 |none=>exact ⟨none,rfl,rfl⟩
 |int i t=>exact ⟨some (i,t),rfl,rfl⟩
theorem W4:FZ X Oc:=by
 intro pins s σ H x v vl vu lo hi sl Q I rx hs pl pu h
 obtain ⟨z,rfl,hz,q⟩:=h
 obtain ⟨t,rfl⟩:=rx
 obtain ⟨l,rfl,rfl⟩:=part_of pl
 obtain ⟨u,rfl,rfl⟩:=part_of pu
 refine ⟨"str",_,F.slot_str_getitem.lookup,acs s z t,wpAny_getItem_str_slice (l:=l) (u:=u) (st:=none) hs rfl ?_⟩
 unfold sliceMade slicePicked
 unfold StrLaws.sliceText at q hz
 simp only [Option.map_none,acL,beq_self_eq_true,Bool.true_and] at q hz ⊢
 split
 ·rename_i e
  rw [Cn (by simpa using e)] at q
  exact ⟨.str z,H,I,⟨_,rfl⟩,q⟩
 ·rename_i e
  rw [AM (by simpa using e)] at q hz
  exact ⟨hz,.str _,H,I.tok _,⟨_,rfl⟩,q⟩
end
inductive Tr where
 |fz (d:Dv)
 |ow (ts:List Tr)
 |tp (ts:List Tr)
mutual
def Ow (K:Frag)(G H:Hp):Tr->V->List Addr->Prop
 | .fz d,v,fp=>fp=[]/\Hv K G d v
 | .ow ts,v,fp=>∃ a vs fq,v=.ref a/\H a=some (.lst vs)/\aM K G H ts vs fq/\fp=a::fq
 | .tp ts,v,fp=>∃ a vs fq,v=.ref a/\H a=some (.tup vs)/\aM K G H ts vs fq/\fp=a::fq
def aM (K:Frag)(G H:Hp):List Tr->List V->List Addr->Prop
 |[],vs,fp=>vs=[]/\fp=[]
 |t::ts,vs,fp=>∃ v r f1 f2,vs=v::r/\fp=f1++f2/\Ow K G H t v f1/\aM K G H ts r f2
end
mutual
def er:Tr->Dv
 | .fz d=>d
 | .ow ts=>.lst (dz ts)
 | .tp ts=>.tup (dz ts)
def dz:List Tr->List Dv
 |[] => []
 |t::ts=>er t::dz ts
end
theorem pU:∀ ts:List Tr,dz ts=ts.map er
 |[] => rfl
 |t::ts=>by rw [dz,pU ts];rfl
mutual
theorem Hv.mono {K:Frag}{G G':Hp}(e:ai G G'):∀ {d:Dv} {v:V},Hv K G d v->Hv K G' d v
 | .fl _,_,h=>h
 | .lst ds,_,⟨a,xs,h1,h2,h3⟩=>⟨a,xs,h1,e.seq h2,aU.mono e h3⟩
 | .tup ds,_,⟨a,xs,h1,h2,h3⟩=>⟨a,xs,h1,e.tup h2,aU.mono e h3⟩
theorem aU.mono {K:Frag}{G G':Hp}(e:ai G G'):∀ {ds:List Dv} {vs:List V},aU K G ds vs->aU K G' ds vs
 |[],_,h=>h
 |_::_,_,⟨x,r,h1,h2,h3⟩=>⟨x,r,h1,h2.mono e,aU.mono e h3⟩
end
mutual
theorem Ow.mono {K:Frag}{G G' H H':Hp}(e:ai G G')(e':ai H H'):∀ {t:Tr} {v:V} {fp:List Addr},Ow K G H t v fp->Ow K G' H' t v fp
 | .fz _,_,_,⟨h1,h2⟩=>⟨h1,h2.mono e⟩
 | .ow _,_,_,⟨a,vs,fq,h1,h2,h3,h4⟩=>⟨a,vs,fq,h1,e' _ _ h2,aM.mono e e' h3,h4⟩
 | .tp _,_,_,⟨a,vs,fq,h1,h2,h3,h4⟩=>⟨a,vs,fq,h1,e' _ _ h2,aM.mono e e' h3,h4⟩
theorem aM.mono {K:Frag}{G G' H H':Hp}(e:ai G G')(e':ai H H'):∀ {ts:List Tr} {vs:List V} {fp:List Addr},aM K G H ts vs fp->aM K G' H' ts vs fp
 |[],_,_,h=>h
 |_::_,_,_,⟨v,r,f1,f2,h1,h2,h3,h4⟩=>⟨v,r,f1,f2,h1,h2,h3.mono e e',aM.mono e e' h4⟩
end
mutual
theorem Ow.frame {K:Frag}{G H:Hp}{a:Addr}{o:HO}:∀ {t:Tr} {v:V} {fp:List Addr},Ow K G H t v fp->a ∉ fp->Ow K G (upd H a o) t v fp
 | .fz _,_,_,h,_=>h
 | .ow _,_,_,⟨b,vs,fq,h1,h2,h3,h4⟩,n=>by
  subst h4
  refine ⟨b,vs,fq,h1,?_,aM.frame h3 fun z=>n (.tail _ z),rfl⟩
  rw [ay fun z=>n (by rw [z];exact .head _)]
  exact h2
 | .tp _,_,_,⟨b,vs,fq,h1,h2,h3,h4⟩,n=>by
  subst h4
  refine ⟨b,vs,fq,h1,?_,aM.frame h3 fun z=>n (.tail _ z),rfl⟩
  rw [ay fun z=>n (by rw [z];exact .head _)]
  exact h2
theorem aM.frame {K:Frag}{G H:Hp}{a:Addr}{o:HO}:∀ {ts:List Tr} {vs:List V} {fp:List Addr},aM K G H ts vs fp->a ∉ fp->aM K G (upd H a o) ts vs fp
 |[],_,_,h,_=>h
 |_::_,_,_,⟨v,r,f1,f2,h1,h2,h3,h4⟩,n=>by
  subst h2
  exact ⟨v,r,f1,f2,h1,rfl,h3.frame fun z=>n (rf _ z),aM.frame h4 fun z=>n (ff _ z)⟩
end
mutual
theorem Ow.there {K:Frag}{G H:Hp}:∀ {t:Tr} {v:V} {fp:List Addr},Ow K G H t v fp->∀ a ∈ fp,∃ o,H a=some o
 | .fz _,_,_,⟨h,_⟩,a,ha=>by subst h;cases ha
 | .ow _,_,_,⟨b,vs,fq,h1,h2,h3,h4⟩,a,ha=>by
  subst h4
  rcases gr.mp ha with rfl | ha
  ·exact ⟨_,h2⟩
  ·exact aM.there h3 a ha
 | .tp _,_,_,⟨b,vs,fq,h1,h2,h3,h4⟩,a,ha=>by
  subst h4
  rcases gr.mp ha with rfl | ha
  ·exact ⟨_,h2⟩
  ·exact aM.there h3 a ha
theorem aM.there {K:Frag}{G H:Hp}:∀ {ts:List Tr} {vs:List V} {fp:List Addr},aM K G H ts vs fp->∀ a ∈ fp,∃ o,H a=some o
 |[],_,_,⟨_,h⟩,a,ha=>by subst h;cases ha
 |_::_,_,_,⟨v,r,f1,f2,h1,h2,h3,h4⟩,a,ha=>by
  subst h2
  rcases ij.mp ha with ha | ha
  ·exact h3.there a ha
  ·exact aM.there h4 a ha
end
mutual
theorem Ow.hv {K:Frag}{G H G':Hp}(e:ai G G'):∀ {t:Tr} {v:V} {fp:List Addr},Ow K G H t v fp->(∀ a ∈ fp,G' a=H a)->Hv K G' (er t) v
 | .fz _,_,_,⟨_,h⟩,_=>h.mono e
 | .ow _,_,_,⟨b,vs,fq,h1,h2,h3,h4⟩,q=>by
  subst h4
  exact ⟨b,vs,h1,aF.of ((q b (.head _)).trans h2),aM.hv e h3 fun a ha=>q a (.tail _ ha)⟩
 | .tp _,_,_,⟨b,vs,fq,h1,h2,h3,h4⟩,q=>by
  subst h4
  exact ⟨b,vs,h1,eM.of ((q b (.head _)).trans h2),aM.hv e h3 fun a ha=>q a (.tail _ ha)⟩
theorem aM.hv {K:Frag}{G H G':Hp}(e:ai G G'):∀ {ts:List Tr} {vs:List V} {fp:List Addr},aM K G H ts vs fp->(∀ a ∈ fp,G' a=H a)->aU K G' (dz ts) vs
 |[],_,_,⟨h,_⟩,_=>h
 |_::_,_,_,⟨v,r,f1,f2,h1,h2,h3,h4⟩,q=>by
  subst h2
  exact ⟨v,r,h1,h3.hv e fun a ha=>q a (rf _ ha),aM.hv e h4 fun a ha=>q a (ff _ ha)⟩
end
theorem aM.length {K:Frag}{G H:Hp}:∀ {ts:List Tr} {vs:List V} {fp:List Addr},aM K G H ts vs fp->ts.length=vs.length
 |[],_,_,⟨h,_⟩=>by subst h;rfl
 |_::_,_,_,⟨v,r,f1,f2,h1,h2,h3,h4⟩=>by subst h1;rw [mf,mf,aM.length h4]
theorem aM.append {K:Frag}{G H:Hp}:∀ {ts us:List Tr} {vs ws:List V} {f1 f2:List Addr},aM K G H ts vs f1->aM K G H us ws f2->aM K G H (ts++us) (vs++ws) (f1++f2)
 |[],us,_,ws,_,f2,⟨h,h'⟩,q=>by subst h h';exact q
 |_::_,us,_,ws,_,f2,⟨v,r,g1,g2,h1,h2,h3,h4⟩,q=>by
  subst h1 h2
  exact ⟨v,r++ws,g1,g2++f2,rfl,by rw [GS],h3,aM.append h4 q⟩
theorem aU.lW {K:Frag}{G H:Hp}:∀ {ds:List Dv} {vs:List V},aU K G ds vs->aM K G H (ds.map .fz) vs []
 |[],_,h=>⟨h,rfl⟩
 |_::_,_,⟨x,r,h1,h2,h3⟩=>⟨x,r,[],[],h1,rfl,⟨rfl,h2⟩,aU.lW h3⟩
structure Step (G H G' H':Hp):Prop where
 g:ai G G'
 h:ai H H'
 s:ai G' H'
 n:∀ a,G a=none->G' a ≠ none->H a=none
theorem Step.refl {G H:Hp}(s:ai G H):Step G H G H:=⟨ai.refl _,ai.refl _,s,fun a h h'=>absurd h h'⟩
theorem Step.trans {G H G1 H1 G2 H2:Hp}(a:Step G H G1 H1)(b:Step G1 H1 G2 H2):Step G H G2 H2 :=
 ⟨a.g.trans b.g,a.h.trans b.h,b.s,fun x h h'=>by
  cases q:G1 x with
  |none=>exact a.h.free (b.n x q h')
  |some o=>exact a.n x h (by rw [q];exact fun z=>nomatch z)⟩
theorem ai.YF {G H:Hp}{p:Addr}{o:HO}(s:ai G H):ai (L2.upd G p o) (L2.upd H p o):=fun b u h=>by
 unfold L2.upd at h ⊢
 split
 ·rename_i e;rw [Cn e] at h;exact h
 ·rename_i e;rw [AM e] at h;exact s b u h
theorem Step.new {G H:Hp}{p:Addr}{o:HO}(s:ai G H)(hp:H p=none):Step G H (upd G p o) (upd H p o) :=
 ⟨ai.new (s.free hp),ai.new hp,s.YF,fun a h h'=>by
  by_cases e:a=p
  ·subst e;exact hp
  ·rw [ay e] at h';exact absurd h h'⟩
theorem Step.lO {G H:Hp}{p:Addr}{o:HO}(s:ai G H)(hp:H p=none):Step G H G (upd H p o) :=
 ⟨ai.refl _,ai.new hp,s.trans (ai.new hp),fun a h h'=>absurd h h'⟩
structure Nw (H G':Hp) (fq:List Addr):Prop where
 n:∀ a ∈ fq,H a=none
 g:∀ a ∈ fq,G' a=none
 d:fq.Nodup
theorem Nw.nil {H G:Hp}:Nw H G []:=⟨fun _ h=>(nomatch h),fun _ h=>(nomatch h),.nil⟩
def Kv (K:Frag)(G H:Hp)(t:Tr)(Q:VK):Prop:=∀ v G' H' fq,Step G H G' H'->Ow K G' H' t v fq->Nw H G' fq->Q v H'
theorem Kv.step {K:Frag}{G H G1 H1:Hp}{t:Tr}{Q:VK}(k:Kv K G H t Q)(e:Step G H G1 H1):Kv K G1 H1 t Q:=fun v G' H' fq st o w =>
 k v G' H' fq (e.trans st) o ⟨fun a ha=>e.h.free (w.n a ha),w.g,w.d⟩
def eK (G H:Hp)(fq:List Addr):Hp:=fun a=>if a ∈ fq then H a else G a
theorem jM {G H:Hp}{fq:List Addr}{a:Addr}(h:a ∈ fq):eK G H fq a=H a:=by unfold eK;rw [Cn h]
theorem uC {G H:Hp}{fq:List Addr}{a:Addr}(h:a ∉ fq):eK G H fq a=G a:=by unfold eK;rw [AM h]
theorem jK {G H:Hp}{fq:List Addr}(h:∀ a ∈ fq,G a=none):ai G (eK G H fq):=fun b o e=>by
 by_cases q:b ∈ fq
 ·rw [h b q] at e;cases e
 ·rw [uC q];exact e
theorem mF {G H:Hp}{fq:List Addr}(s:ai G H):ai (eK G H fq) H:=fun b o e=>by
 by_cases q:b ∈ fq
 ·rw [jM q] at e;exact e
 ·rw [uC q] at e;exact s b o e
theorem Step.dt {G H G' H':Hp}{fq:List Addr}(e:Step G H G' H')(w:Nw H G' fq):Step G H (eK G' H' fq) H' :=
 ⟨e.g.trans (jK w.g),e.h,mF e.s,fun a h h'=>by
  by_cases q:a ∈ fq
  ·exact w.n a q
  ·rw [uC q] at h';exact e.n a h h'⟩
structure aQ (ι:Type) where
 cx : ι->Cx
 P:Program
 w:World
 K:Frag
 mg:Str->Option Value
 base:Heap
 room:Nat
 hP:∀ i,(cx i).prog=P
 hw:∀ i,(cx i).w=w
 hK:∀ i,(cx i).K=K
 hm:∀ i,(cx i).mg=mg
 hb:∀ i,(cx i).base=base
 hr:∀ i,dk room (cx i).A
 calm:∀ i,(cx i).calm=true
abbrev En:=List (Option Tr)
def bH (K:Frag)(G:Hp)(ρ:En)(σ:St):Prop:=∀ (j:Nat) (d:Dv),ρ[j]?=some (some (Tr.fz d))->∃ v,σ[j]?=some (some v)/\Hv K G d v
theorem bH.mono {K:Frag}{G G':Hp}{ρ:En}{σ:St}(e:ai G G')(r:bH K G ρ σ):bH K G' ρ σ:=fun j d h=>by
 obtain ⟨v,h1,h2⟩:=r j d h
 exact ⟨v,h1,h2.mono e⟩
section
variable {ι:Type}
def Ev (F:aQ ι)(e:Expr)(ρ:En)(t:Tr):Prop:=∃ τ:TE,(∀ i,PE (F.cx i) e τ)/\∀ σ G H Q,ai G H->bH F.K G ρ σ->Kv F.K G H t Q->τ σ H Q
def Et (F:aQ ι)(e:Expr)(ρ:En)(b:Bool):Prop:=∃ τ:TT,(∀ i,PT (F.cx i) e τ)/\∀ σ G H Q,ai G H->bH F.K G ρ σ->(∀ G' H',Step G H G' H'->Q b H')->τ σ H Q
def fF (F:aQ ι)(es:List Expr)(ρ:En)(ts:List Tr):Prop:=∃ τ:TA,(∀ i,PA (F.cx i) es τ)/\∀ σ G H Q,ai G H->bH F.K G ρ σ ->
 (∀ vs G' H' fq,Step G H G' H'->aM F.K G' H' ts vs fq->Nw H G' fq->Q vs H')->τ σ H Q
variable {F:aQ ι}{e a b:Expr}{es:List Expr}{ρ:En}{t ta tb:Tr}{ts:List Tr}
theorem Ev.use (h:Ev F e ρ t):∃ τ:TE,(∀ i,PE (F.cx i) e τ)/\∀ σ G H (Q:VK),ai G H->bH F.K G ρ σ->(∀ v G' H',Step G H G' H'->Hv F.K G' (er t) v->Q v H')->τ σ H Q:=by
 obtain ⟨τ,p,q⟩:=h
 refine ⟨τ,p,fun σ G H Q s r k=>q σ G H Q s r fun v G' H' fq st o w=>?_⟩
 exact k v (eK G' H' fq) H' (st.dt w) (o.hv (jK w.g) fun a ha=>jM ha)
theorem Ev.fz (h:Ev F e ρ t):Ev F e ρ (.fz (er t)):=by
 obtain ⟨τ,p,q⟩:=h.use
 exact ⟨τ,p,fun σ G H Q s r k=>q σ G H Q s r fun v G' H' st hv=>k v G' H' [] st ⟨rfl,hv⟩ .nil⟩
theorem Ev.as {d:Dv}(h:Ev F e ρ t)(ed:er t=d):Ev F e ρ (.fz d):=ed ▸ h.fz
theorem fF.use (h:fF F es ρ ts):∃ τ:TA,(∀ i,PA (F.cx i) es τ)/\∀ σ G H (Q:List V->Hp->Prop),ai G H->bH F.K G ρ σ->(∀ vs G' H',Step G H G' H'->aU F.K G' (dz ts) vs->Q vs H')->τ σ H Q:=by
 obtain ⟨τ,p,q⟩:=h
 refine ⟨τ,p,fun σ G H Q s r k=>q σ G H Q s r fun v G' H' fq st o w=>?_⟩
 exact k v (eK G' H' fq) H' (st.dt w) (o.hv (jK w.g) fun a ha=>jM ha)
theorem ao:fF F [] ρ []:=⟨ck,fun i=>aV,fun σ G H Q s r k=>k [] G H [] (.refl s) ⟨rfl,rfl⟩ .nil⟩
theorem Nw.app {H G1 H1 G2:Hp}{f1 f2:List Addr}(w1:Nw H G1 f1)(w2:Nw H1 G2 f2)(hh:ai H H1)(th:∀ a ∈ f1,∃ o,H1 a=some o)(hg:∀ a,G1 a=none->G2 a ≠ none->H1 a=none):Nw H G2 (f1++f2) :=
 ⟨fun a ha=>(ij.mp ha).elim (w1.n a) fun z=>hh.free (w2.n a z),fun a ha=>(ij.mp ha).elim (fun z=>by
   cases q:G2 a with
   |none=>rfl
   |some o =>
    obtain ⟨u,hu⟩:=th a z
    have:=hg a (w1.g a z) (by rw [q];exact fun z=>nomatch z)
    rw [hu] at this;cases this) (w2.g a),
  ue.mpr ⟨w1.d,w2.d,fun a ha b hb e=>by
   subst e
   obtain ⟨u,hu⟩:=th a ha
   rw [w2.n a hb] at hu;cases hu⟩⟩
theorem ah (ha:Ev F e ρ t)(hr:fF F es ρ ts)(hs:∀ i,starEach (e::es) (F.cx i).env=(false,eval e (F.cx i).env)::starEach es (F.cx i).env:=by intro _;rfl):fF F (e::es) ρ (t::ts):=by
 obtain ⟨τ,p,q⟩:=ha
 obtain ⟨bX,p',q'⟩:=hr
 refine ⟨aT τ bX,fun i=>au (p i) (p' i) (hs i),fun σ G H Q s r k=>?_⟩
 refine q σ G H _ s r fun v G1 H1 f1 s1 o1 w1=>q' σ G1 H1 _ s1.s (r.mono s1.g) fun vs G2 H2 f2 s2 o2 w2=>?_
 exact k (v::vs) G2 H2 (f1++f2) (s1.trans s2) ⟨v,vs,f1,f2,rfl,rfl,o1.mono s2.g s2.h,o2⟩ (w1.app w2 s1.h (fun a ha=>o1.there a ha) s2.n)
end
end L2
namespace L2
open PySem PySem.Spec PyProof.Rows
abbrev di (n:Int):Dv:=.fl (.int n)
abbrev db (b:Bool):Dv:=.fl (.bl b)
abbrev dn:Dv:=.fl .aN
abbrev ds (x:Str):Dv:=.fl (.str x)
abbrev dis (ns:LI):Dv:=.lst (ns.map di)
abbrev ti (n:Int):Tr:=.fz (di n)
abbrev tb (b:Bool):Tr:=.fz (db b)
abbrev tn:Tr:=.fz dn
abbrev tx (x:Str):Tr:=.fz (ds x)
theorem Kv.sc {K:Frag}{G H:Hp}{v:V}{Q:VK}(k:Kv K G H (.fz (.fl v)) Q)(s:ai G H)(f:fA v=true):Q v H:=k v G H [] (.refl s) ⟨rfl,rfl,f⟩ .nil
theorem Kv.dat {K:Frag}{G H:Hp}{d:Dv}{v:V}{Q:VK}(k:Kv K G H (.fz d) Q)(s:ai G H)(h:Hv K G d v):Q v H:=k v G H [] (.refl s) ⟨rfl,h⟩ .nil
theorem Kv.lst {K:Frag}{G H:Hp}{ts:List Tr}{vs:List V}{Q:VK}(k:Kv K G H (.ow ts) Q)(s:ai G H)(h:aM K G H ts vs []){p:Addr}(hp:H p=none):Q (.ref p) (upd H p (.lst vs)) :=
 k (.ref p) G _ [p] (.lO s hp) ⟨p,vs,[],rfl,bT,h.mono (ai.refl _) (ai.new hp),rfl⟩ ⟨fun a ha=>by rw [mT.mp ha];exact hp,fun a ha=>by rw [mT.mp ha];exact s.free hp,by simp⟩
theorem aB {K:Frag}{G:Hp}{v x:V}(h:Hv K G (.fl v) x):x=v:=h.1
section
variable {ι:Type}{F:aQ ι}{e a b c:Expr}{es:List Expr}{ρ:En}{t ta cM:Tr}{ts:List Tr}{pos:Pos}
theorem ae (j:Nat){d:Dv}{x:Str}(h : ρ[j]?=some (some (.fz d)))(hN:∀ i,(F.cx i).N[j]?=some x:=by intro _;rfl)(hv:∀ i,kC (F.cx i).env.scope x:=by intro _;first | exact Or.inl rfl | exact Or.inr (Or.inl rfl) | exact Or.inr (Or.inr rfl))(hd:(x==("__debug__" : Str))=false:=by decide)(hc:(x==("__classdict__" : Str))=false:=by decide):Ev F (.Name x pos) ρ (.fz d) :=
 ⟨bD j,fun i=>p7 (hN i) (hv i) hd hc,fun σ G H Q s r k=>by
  obtain ⟨v,h1,h2⟩:=r j d h
  exact ⟨v,h1,k.dat s h2⟩⟩
theorem af {n:Int}{j:Nat}:Ev F (.Constant (.int n) j pos) ρ (ti n):=⟨_,fun i=>D0,fun σ G H Q s r k=>k.sc s rfl⟩
theorem EC {n:Bool}{j:Nat}:Ev F (.Constant (.bool n) j pos) ρ (tb n):=⟨_,fun i=>XT,fun σ G H Q s r k=>k.sc s rfl⟩
theorem jP {j:Nat}:Ev F (.Constant .none j pos) ρ tn:=⟨_,fun i=>WB,fun σ G H Q s r k=>k.sc s rfl⟩
theorem bJ {n:Str}{j:Nat}:Ev F (.Constant (.str n) j pos) ρ (tx n):=⟨_,fun i=>xv,fun σ G H Q s r k=>k.sc s rfl⟩
theorem gh {x:Str}{v:V}{u:Value}(hm:F.mg x=some u)(r:RelV v u)(f:fA v=true)(hg:∀ i,Gl (F.cx i) x:=by intro _;rfl)(hd:(x==("__debug__" : Str))=false:=by decide):Ev F (.Name x pos) ρ (.fz (.fl v)) :=
 ⟨tC v,fun i=>iw (hg i) ((F.hm i).symm ▸ hm) r hd,fun σ G H Q s _ k=>k.sc s f⟩
theorem oi {op:Operator}{r:R2}(ho:∀ i,dv (F.cx i) (binaryOp op) r)(ha:Ev F a ρ ta)(hb:Ev F b ρ cM)(h:∀ G H x y Q,ai G H->Hv F.K G (er ta) x->Hv F.K G (er cM) y->Kv F.K G H t Q->r x y H Q):Ev F (.BinOp a op b pos) ρ t:=by
 obtain ⟨τ,p,q⟩:=ha.use
 obtain ⟨bX,p',q'⟩:=hb.use
 refine ⟨iX r τ bX,fun i=>xM (ho i) (p i) (p' i),fun σ G H Q s rr k=>?_⟩
 refine q σ G H _ s rr fun x G1 H1 s1 hx=>q' σ G1 H1 _ s1.s (rr.mono s1.g) fun y G2 H2 s2 hy=>?_
 exact h G2 H2 x y Q s2.s (hx.mono s2.g) hy (k.step (s1.trans s2))
theorem iz {i j:Int}(ha:Ev F a ρ (ti i))(hb:Ev F b ρ (ti j)):Ev F (.BinOp a .Add b pos) ρ (ti (i+j)):=oi (fun _=>WH) ha hb fun G H x y Q s hx hy k=>⟨i,j,aB hx,aB hy,k.sc s rfl⟩
theorem W5 {i j:Int}(ha:Ev F a ρ (ti i))(hb:Ev F b ρ (ti j)):Ev F (.BinOp a .Sub b pos) ρ (ti (i-j)):=oi (fun _=>WK) ha hb fun G H x y Q s hx hy k=>⟨i,j,aB hx,aB hy,k.sc s rfl⟩
theorem vg {i j:Int}(ha:Ev F a ρ (ti i))(hb:Ev F b ρ (ti j))(hc:Nb i j):Ev F (.BinOp a .Mult b pos) ρ (ti (i*j)):=oi (fun _=>VS) ha hb fun G H x y Q s hx hy k=>⟨i,j,aB hx,aB hy,hc,k.sc s rfl⟩
theorem gF {i j:Int}(ha:Ev F a ρ (ti i))(hb:Ev F b ρ (ti j))(hc:qj i j):Ev F (.BinOp a .FloorDiv b pos) ρ (ti (i / j)):=oi (fun _=>UW) ha hb fun G H x y Q s hx hy k=>⟨i,j,aB hx,aB hy,hc,k.sc s rfl⟩
theorem bU {i j:Int}(ha:Ev F a ρ (ti i))(hb:Ev F b ρ (ti j))(hc : 0<j):Ev F (.BinOp a .Mod b pos) ρ (ti (i % j)):=oi (fun _=>WL) ha hb fun G H x y Q s hx hy k=>⟨i,j,aB hx,aB hy,hc,k.sc s rfl⟩
theorem Ea {i j:Int}(ha:Ev F a ρ (ti i))(hb:Ev F b ρ (ti j))(hc:N3 i j):Ev F (.BinOp a .Pow b pos) ρ (ti (i ^ j.toNat)):=oi (fun _=>WM) ha hb fun G H x y Q s hx hy k=>⟨i,j,aB hx,aB hy,hc,k.sc s rfl⟩
theorem Eb {xs ys:List Dv}(ha:Ev F a ρ ta)(hb:Ev F b ρ cM)(ea:er ta=.lst xs)(eb:er cM=.lst ys)(hz:xs.length+ys.length<=sizeLine):Ev F (.BinOp a .Add b pos) ρ (.ow ((xs++ys).map .fz)) :=
 oi (r:=Ez F.K) (fun i=>F.hK i ▸ Lp) ha hb fun G H x y Q s hx hy k=>by
  rw [ea] at hx
  rw [eb] at hy
  obtain ⟨l,vs,rfl,h1,h2⟩:=hx
  obtain ⟨l',ws,rfl,h3,h4⟩:=hy
  refine ⟨l,l',vs,ws,rfl,rfl,s.seq h1,s.seq h3,by rw [<- h2.length,<- h4.length];exact hz,fun p hp=>?_⟩
  refine k.lst s ?_ hp
  rw [Cf]
  exact h2.lW.append h4.lW
theorem oj {op:CmpOp}{r:R2}{c:Bool}(ho:∀ i,dv (F.cx i) (compareOp op) r)(ha:Ev F a ρ ta)(hb:Ev F b ρ cM)(h:∀ G H x y (Q:VK),ai G H->Hv F.K G (er ta) x->Hv F.K G (er cM) y->Q (.bl c) H->r x y H Q)(hm:behindInMarks op b=false):Ev F (.Compare a [op] [b] pos) ρ (tb c):=by
 obtain ⟨τ,p,q⟩:=ha.use
 obtain ⟨bX,p',q'⟩:=hb.use
 refine ⟨iX r τ bX,fun i=>VH (ho i) (p i) (p' i) hm,fun σ G H Q s rr k=>?_⟩
 refine q σ G H _ s rr fun x G1 H1 s1 hx=>q' σ G1 H1 _ s1.s (rr.mono s1.g) fun y G2 H2 s2 hy=>?_
 exact h G2 H2 x y Q s2.s (hx.mono s2.g) hy ((k.step (s1.trans s2)).sc s2.s rfl)
theorem mM {op:CmpOp}{r:R2}{c:Bool}(ho:∀ i,dv (F.cx i) (compareOp op) r)(ha:Ev F a ρ ta)(hb:Ev F b ρ cM)(h:∀ G H x y (Q:VK),ai G H->Hv F.K G (er ta) x->Hv F.K G (er cM) y->Q (.bl c) H->r x y H Q)(hm:behindInMarks op b=false):Et F (.Compare a [op] [b] pos) ρ c:=by
 obtain ⟨τ,p,q⟩:=ha.use
 obtain ⟨bX,p',q'⟩:=hb.use
 refine ⟨M8 (iX r τ bX),fun i=>VI (ho i) (p i) (p' i) hm,fun σ G H Q s rr k=>?_⟩
 refine q σ G H _ s rr fun x G1 H1 s1 hx=>q' σ G1 H1 _ s1.s (rr.mono s1.g) fun y G2 H2 s2 hy=>?_
 exact h G2 H2 x y _ s2.s (hx.mono s2.g) hy ⟨c,rfl,k G2 H2 (s1.trans s2)⟩
theorem qp {i j:Int}(ha:Ev F a ρ (ti i))(hb:Ev F b ρ (ti j)):Et F (.Compare a [.Lt] [b] pos) ρ (decide (i<j)):=mM (fun _=>M6) ha hb (fun G H x y Q s hx hy k=>⟨i,j,aB hx,aB hy,k⟩) (iO _)
theorem i9 {i j:Int}(ha:Ev F a ρ (ti i))(hb:Ev F b ρ (ti j)):Et F (.Compare a [.Gt] [b] pos) ρ (decide (j<i)):=mM (fun _=>M7) ha hb (fun G H x y Q s hx hy k=>⟨i,j,aB hx,aB hy,k⟩) (iO _)
theorem eh {i j:Int}(ha:Ev F a ρ (ti i))(hb:Ev F b ρ (ti j)):Et F (.Compare a [.Eq] [b] pos) ρ (decide (i=j)):=mM (fun _=>Eu) ha hb (fun G H x y Q s hx hy k=>by
 rw [aB hx,aB hy];exact ⟨rfl,by simpa using k⟩) (iO _)
theorem oA {i j:Int}(ha:Ev F a ρ (ti i))(hb:Ev F b ρ (ti j)):Et F (.Compare a [.NotEq] [b] pos) ρ (!decide (i=j)):=mM (fun _=>Ex) ha hb (fun G H x y Q s hx hy k=>by
 rw [aB hx,aB hy];exact ⟨rfl,by simpa using k⟩) (iO _)
theorem qq {i j:Int}(ha:Ev F a ρ (ti i))(hb:Ev F b ρ (ti j)):Ev F (.Compare a [.Lt] [b] pos) ρ (tb (decide (i<j))):=oj (fun _=>M6) ha hb (fun G H x y Q s hx hy k=>⟨i,j,aB hx,aB hy,k⟩) (iO _)
theorem Ng {i j:Int}(ha:Ev F a ρ (ti i))(hb:Ev F b ρ (ti j)):Ev F (.Compare a [.LtE] [b] pos) ρ (tb (decide (i<=j))):=oj (fun _=>XU) ha hb (fun G H x y Q s hx hy k=>⟨i,j,aB hx,aB hy,k⟩) (iO _)
theorem ED {i j:Int}(ha:Ev F a ρ (ti i))(hb:Ev F b ρ (ti j)):Ev F (.Compare a [.Gt] [b] pos) ρ (tb (decide (j<i))):=oj (fun _=>M7) ha hb (fun G H x y Q s hx hy k=>⟨i,j,aB hx,aB hy,k⟩) (iO _)
theorem xQ {i j:Int}(ha:Ev F a ρ (ti i))(hb:Ev F b ρ (ti j)):Ev F (.Compare a [.GtE] [b] pos) ρ (tb (decide (j<=i))):=oj (fun _=>XW) ha hb (fun G H x y Q s hx hy k=>⟨i,j,aB hx,aB hy,k⟩) (iO _)
theorem X2 {i j:Int}(ha:Ev F a ρ (ti i))(hb:Ev F b ρ (ti j)):Ev F (.Compare a [.Eq] [b] pos) ρ (tb (decide (i=j))):=oj (fun _=>Eu) ha hb (fun G H x y Q s hx hy k=>by
 rw [aB hx,aB hy];exact ⟨rfl,by simpa using k⟩) (iO _)
def Mv (d e:Dv):Prop:=(∃ xs ys,d=.lst xs/\e=.lst ys)\/∃ xs ys,d=.tup xs/\e=.tup ys
theorem Mw (ha:Ev F a ρ ta)(hb:Ev F b ρ cM)(hk:Mv (er ta) (er cM))(hd:gU (er ta)<=50):Et F (.Compare a [.Eq] [b] pos) ρ (eQ (er ta) (er cM)) :=
 mM (r:=yh F.K false) (fun i=>F.hK i ▸ WV (F.hr i).units) ha hb (fun G H x y Q s hx hy k=>⟨_,_,hk,hx.mono s,hy.mono s,hd,k⟩) (iO _)
theorem lE (ha:Ev F a ρ ta)(hb:Ev F b ρ cM)(hk:Mv (er ta) (er cM))(hd:gU (er ta)<=50):Et F (.Compare a [.NotEq] [b] pos) ρ (!eQ (er ta) (er cM)) :=
 mM (r:=yh F.K true) (fun i=>F.hK i ▸ WW (F.hr i).units) ha hb (fun G H x y Q s hx hy k=>⟨_,_,hk,hx.mono s,hy.mono s,hd,k⟩) (iO _)
theorem Ks {K:Frag}{G:Hp}:∀ {ns:LI} {vs:List V},aU K G (ns.map di) vs->vs=ns.map V.int
 |[],_,h=>h
 |_::_,_,⟨x,r,h1,h2,h3⟩=>by subst h1;rw [aB h2,Ks h3];rfl
theorem wJ {K:Frag}{G:Hp}:∀ {ns:LI},aU K G (ns.map di) (ns.map V.int)
 |[] => rfl
 |_::_=>⟨_,_,rfl,⟨rfl,rfl⟩,wJ⟩
theorem dY {c:Bool}(h:Ev F e ρ (tb c))(he:∀ i whole,isTrue e (F.cx i).env whole=(do let v <- whole;standAt e.pos;holding [v] (truthy v)):=by intro _ _;rfl):Et F e ρ c:=by
 obtain ⟨τ,p,q⟩:=h
 exact ⟨tB τ,fun i=>D1 (p i) (he i),fun σ G H Q s r k=>q σ G H _ s r fun v G' H' fq st o w=>⟨c,aB o.2,k G' H' st⟩⟩
def Ew (F:aQ ι)(e:Expr)(ρ:En)(b:Bool):Prop:=∃ τ:TT,(∀ i,PW (F.cx i) e τ)/\∀ σ G H Q,ai G H->bH F.K G ρ σ->(∀ G' H',Step G H G' H'->Q b H')->τ σ H Q
theorem Ew.et {p:Bool}(h:Ew F e ρ p):Et F e ρ p:=let ⟨τ,a,b⟩:=h;⟨τ,fun i=>(a i).pt,b⟩
theorem Kt {X:Cx}:PW X e (fun _ _ _=>False):=fun _ _ _ _ _ _ _ h=>h.elim
theorem mJ {p:Bool}(h:Et F a ρ p):Ew F (.BoolOp .And [a] pos) ρ p:=let ⟨τ,x,y⟩:=h;⟨τ,fun i=>VF (x i),y⟩
theorem iP {p:Bool}(h:Et F a ρ p):Ew F (.BoolOp .Or [a] pos) ρ p:=let ⟨τ,x,y⟩:=h;⟨τ,fun i=>WC (x i),y⟩
theorem lF {p q:Bool}{rest:List Expr}(h:Et F a ρ p)(h2:p=true->Ew F (.BoolOp .And (b::rest) pos) ρ q):Ew F (.BoolOp .And (a::b::rest) pos) ρ (p&&q):=by
 obtain ⟨τ,x,y⟩:=h
 cases p with
 |false=>exact ⟨E7 τ _,fun i=>Mk (x i) Kt,fun σ G H Q s r k=>y σ G H _ s r fun G' H' st=>nc (k G' H' st)⟩
 |true =>
  obtain ⟨bX,x',y'⟩:=h2 rfl
  exact ⟨E7 τ bX,fun i=>Mk (x i) (x' i),fun σ G H Q s r k=>y σ G H _ s r fun G1 H1 s1=>jX (y' σ G1 H1 _ s1.s (r.mono s1.g) fun G2 H2 s2=>k G2 H2 (s1.trans s2))⟩
theorem iA {p q:Bool}{rest:List Expr}(h:Et F a ρ p)(h2:p=false->Ew F (.BoolOp .Or (b::rest) pos) ρ q):Ew F (.BoolOp .Or (a::b::rest) pos) ρ (p || q):=by
 obtain ⟨τ,x,y⟩:=h
 cases p with
 |true=>exact ⟨FX τ _,fun i=>M3 (x i) Kt,fun σ G H Q s r k=>y σ G H _ s r fun G' H' st=>jX (k G' H' st)⟩
 |false =>
  obtain ⟨bX,x',y'⟩:=h2 rfl
  exact ⟨FX τ bX,fun i=>M3 (x i) (x' i),fun σ G H Q s r k=>y σ G H _ s r fun G1 H1 s1=>nc (y' σ G1 H1 _ s1.s (r.mono s1.g) fun G2 H2 s2=>k G2 H2 (s1.trans s2))⟩
theorem i5 {p:Bool}(h:Et F a ρ p):Et F (.UnaryOp .Not a pos) ρ (!p):=by
 obtain ⟨τ,x,y⟩:=h
 exact ⟨NY τ,fun i=>WD (x i),fun σ G H Q s r k=>y σ G H _ s r k⟩
theorem Ku {X:Cx}:PE X e (fun _ _ _=>False):=fun _ _ _ _ _ _ h=>h.elim
theorem mO {op:BoolOp}{t:Tr}(h:Ev F a ρ t):Ev F (.BoolOp op [a] pos) ρ t:=let ⟨τ,x,y⟩:=h;⟨τ,fun i=>WG (x i),y⟩
theorem Ec {p q:Bool}{rest:List Expr}(h:Ev F a ρ (tb p))(h2:p=true->Ev F (.BoolOp .And (b::rest) pos) ρ (tb q)):Ev F (.BoolOp .And (a::b::rest) pos) ρ (tb (p&&q)):=by
 obtain ⟨τ,x,y⟩:=h.use
 cases p with
 |false=>exact ⟨Es τ _,fun i=>Ml (x i) Ku,fun σ G H Q s r k=>y σ G H _ s r fun v G' H' st hv=>⟨false,aB hv,nc ((k.step st).sc st.s rfl)⟩⟩
 |true =>
  obtain ⟨bX,x',y'⟩:=h2 rfl
  exact ⟨Es τ bX,fun i=>Ml (x i) (x' i),fun σ G H Q s r k=>y σ G H _ s r fun v G1 H1 s1 hv=>⟨true,aB hv,jX (y' σ G1 H1 _ s1.s (r.mono s1.g) (k.step s1))⟩⟩
theorem qs {p q:Bool}{rest:List Expr}(h:Ev F a ρ (tb p))(h2:p=false->Ev F (.BoolOp .Or (b::rest) pos) ρ (tb q)):Ev F (.BoolOp .Or (a::b::rest) pos) ρ (tb (p || q)):=by
 obtain ⟨τ,x,y⟩:=h.use
 cases p with
 |true=>exact ⟨E8 τ _,fun i=>M4 (x i) Ku,fun σ G H Q s r k=>y σ G H _ s r fun v G' H' st hv=>⟨true,aB hv,jX ((k.step st).sc st.s rfl)⟩⟩
 |false =>
  obtain ⟨bX,x',y'⟩:=h2 rfl
  exact ⟨E8 τ bX,fun i=>M4 (x i) (x' i),fun σ G H Q s r k=>y σ G H _ s r fun v G1 H1 s1 hv=>⟨false,aB hv,nc (y' σ G1 H1 _ s1.s (r.mono s1.g) (k.step s1))⟩⟩
theorem b0 (h:fF F es ρ ts)(hz:ts.length<=sizeLine):Ev F (.List es pos) ρ (.ow ts):=by
 obtain ⟨τ,x,y⟩:=h
 refine ⟨N4 τ,fun i=>u5 (x i),fun σ G H Q s r k=>y σ G H _ s r fun vs G1 H1 fq s1 o w=>⟨by rw [<- o.length];exact hz,fun p hp=>?_⟩⟩
 have np:p ∉ fq:=fun z=>by
  obtain ⟨u,hu⟩:=o.there p z
  rw [hp] at hu;cases hu
 exact k (.ref p) G1 _ (p::fq) (s1.trans (.lO s1.s hp)) ⟨p,vs,fq,rfl,bT,o.mono (ai.refl _) (ai.new hp),rfl⟩
  ⟨fun a ha=>(gr.mp ha).elim (fun z=>by rw [z];exact s1.h.free hp) (w.n a),fun a ha=>(gr.mp ha).elim (fun z=>by rw [z];exact s1.s.free hp) (w.g a),BB.mpr ⟨np,w.d⟩⟩
theorem jQ {x1}(h:fF F es ρ ts)(hz:ts.length<=sizeLine):Ev F (.Tuple es x1 pos) ρ (.tp ts):=by
 obtain ⟨τ,x,y⟩:=h
 refine ⟨qA τ,fun i=>sJ (x i),fun σ G H Q s r k=>y σ G H _ s r fun vs G1 H1 fq s1 o w=>⟨by rw [<- o.length];exact hz,fun p hp=>?_⟩⟩
 have np:p ∉ fq:=fun z=>by
  obtain ⟨u,hu⟩:=o.there p z
  rw [hp] at hu;cases hu
 exact k (.ref p) G1 _ (p::fq) (s1.trans (.lO s1.s hp)) ⟨p,vs,fq,rfl,bT,o.mono (ai.refl _) (ai.new hp),rfl⟩
  ⟨fun a ha=>(gr.mp ha).elim (fun z=>by rw [z];exact s1.h.free hp) (w.n a),fun a ha=>(gr.mp ha).elim (fun z=>by rw [z];exact s1.s.free hp) (w.g a),BB.mpr ⟨np,w.d⟩⟩
theorem VY {x1}{dd:List Dv}(h:fF F es ρ ts)(ed:dz ts=dd)(hz:ts.length<=sizeLine):Ev F (.Tuple es x1 pos) ρ (.fz (.tup dd)):=ed ▸ (jQ h hz).fz
theorem aU.get {K:Frag}{G:Hp}:∀ {ds:List Dv} {vs:List V} {j:Nat} {d:Dv},aU K G ds vs->ds[j]?=some d->∃ v,vs[j]?=some v/\Hv K G d v
 |_::_,_,0,_,⟨x,r,h1,h2,h3⟩,h=>by cases h;subst h1;exact ⟨x,rfl,h2⟩
 |_::_,_,j+1,d,⟨x,r,h1,h2,h3⟩,h=>by
  subst h1
  obtain ⟨v,q1,q2⟩:=aU.get (j:=j) h3 h
  exact ⟨v,q1,q2⟩
theorem aU.at {K:Frag}{G:Hp}{ds:List Dv}{vs:List V}{k:Int}{d:Dv}(h:aU K G ds vs)(hk:cC ds k=some d):∃ v,cC vs k=some v/\Hv K G d v:=by
 unfold cC at hk ⊢
 rw [<- h.length]
 cases q:iY ds.length k with
 |none=>rw [q] at hk;cases hk
 |some j=>rw [q] at hk;exact h.get hk
theorem bA {xs:List Dv}{k:Int}{d:Dv}(ha:Ev F a ρ ta)(hb:Ev F b ρ (ti k))(ea:er ta=.lst xs)(hk:cC xs k=some d)(hs:w8 b:=by exact fun _ _=>rfl):Ev F (.Subscript a b pos) ρ (.fz d):=by
 obtain ⟨τ,p,q⟩:=ha.use
 obtain ⟨bX,p',q'⟩:=hb.use
 refine ⟨iX (qB F.K) τ bX,fun i=>qh (Kq (F.hK i)) (p i) (p' i) hs,fun σ G H Q s rr k=>?_⟩
 refine q σ G H _ s rr fun x G1 H1 s1 hx=>q' σ G1 H1 _ s1.s (rr.mono s1.g) fun y G2 H2 s2 hy=>?_
 rw [ea] at hx
 obtain ⟨l,vs,rfl,h1,h2⟩:=hx
 obtain ⟨v,h3,h4⟩:=h2.at hk
 exact ⟨l,vs,_,v,rfl,aB hy,(s2.g.trans s2.s).seq h1,h3,(k.step (s1.trans s2)).dat s2.s (h4.mono s2.g)⟩
theorem p8 {xs:List Dv}{k:Int}{d:Dv}(ha:Ev F a ρ ta)(hb:Ev F b ρ (ti k))(ea:er ta=.tup xs)(hk:cC xs k=some d)(hs:w8 b:=by exact fun _ _=>rfl):Ev F (.Subscript a b pos) ρ (.fz d):=by
 obtain ⟨τ,p,q⟩:=ha.use
 obtain ⟨bX,p',q'⟩:=hb.use
 refine ⟨iX (Fe F.K) τ bX,fun i=>qh (VX (F.hK i)) (p i) (p' i) hs,fun σ G H Q s rr k=>?_⟩
 refine q σ G H _ s rr fun x G1 H1 s1 hx=>q' σ G1 H1 _ s1.s (rr.mono s1.g) fun y G2 H2 s2 hy=>?_
 rw [ea] at hx
 obtain ⟨l,vs,rfl,h1,h2⟩:=hx
 obtain ⟨v,h3,h4⟩:=h2.at hk
 exact ⟨l,vs,_,v,rfl,aB hy,(s2.g.trans s2.s).tup h1,h3,(k.step (s1.trans s2)).dat s2.s (h4.mono s2.g)⟩
def cutD {α:Type}(xs:List α)(lo hi:Option Int):List α:=(xs.drop (HT.fV xs.length 0 lo)).take (HT.fV xs.length xs.length hi-HT.fV xs.length 0 lo)
theorem aU.drop {K:Frag}{G:Hp}:∀ {ds:List Dv} {vs:List V} (n:Nat),aU K G ds vs->aU K G (ds.drop n) (vs.drop n)
 |ds,vs,0,h=>h
 |[],_,n+1,h=>by rw [show _=[] from h];exact rfl
 |_::_,_,n+1,⟨x,r,h1,h2,h3⟩=>by subst h1;exact aU.drop n h3
theorem aU.take {K:Frag}{G:Hp}:∀ {ds:List Dv} {vs:List V} (n:Nat),aU K G ds vs->aU K G (ds.take n) (vs.take n)
 |ds,vs,0,h=>by simp only [acW];exact rfl
 |[],_,n+1,h=>by rw [show _=[] from h];exact rfl
 |_::_,_,n+1,⟨x,r,h1,h2,h3⟩=>by subst h1;exact ⟨x,r.take n,rfl,h2,aU.take n h3⟩
theorem aU.cut {K:Frag}{G:Hp}{ds:List Dv}{vs:List V}(h:aU K G ds vs)(lo hi:Option Int):aU K G (cutD ds lo hi) (sZ vs lo hi):=by
 unfold cutD sZ
 rw [h.length]
 exact (h.drop _).take _
def Eo (F:aQ ι)(e:Option Expr)(ρ:En)(o:Option Int):Prop:=∃ τ:TO,(∀ i,PO (F.cx i) e τ)/\∀ σ G H Q,ai G H->bH F.K G ρ σ->(∀ G' H',Step G H G' H'->Q o H')->τ σ H Q
theorem gi:Eo F none ρ none:=⟨Lj,fun _=>VN,fun σ G H Q s r k=>k G H (.refl s)⟩
theorem eS {n:Int}(h:Ev F e ρ (ti n)):Eo F (some e) ρ (some n):=by
 obtain ⟨τ,x,y⟩:=h.use
 exact ⟨xO τ,fun i=>DF (x i),fun σ G H Q s r k=>y σ G H _ s r fun v G' H' st hv=>⟨n,aB hv,k G' H' st⟩⟩
theorem fM {lo hi:Option Expr}{l u:Option Int}{xs:List Dv}{p2:Pos}(ha:Ev F a ρ ta)(ea:er ta=.lst xs)(hl:Eo F lo ρ l)(hu:Eo F hi ρ u):Ev F (.Subscript a (.Slice lo hi none p2) pos) ρ (.ow ((cutD xs l u).map .fz)):=by
 obtain ⟨τ,p,q⟩:=ha.use
 obtain ⟨Gx,p1,q1⟩:=hl
 obtain ⟨nF,tT,q2⟩:=hu
 refine ⟨Ge (N6 F.K) τ Gx nF,fun i=>Kk (F.hK i ▸ VO) (p i) (p1 i) (tT i),fun σ G H Q s rr k=>?_⟩
 refine q σ G H _ s rr fun x G1 H1 s1 hx=>q1 σ G1 H1 _ s1.s (rr.mono s1.g) fun G2 H2 s2=>q2 σ G2 H2 _ s2.s (rr.mono (s1.trans s2).g) fun G3 H3 s3=>?_
 rw [ea] at hx
 obtain ⟨b,vs,rfl,h1,h2⟩:=hx
 have st:=s2.trans s3
 exact ⟨b,vs,rfl,(st.g.trans st.s).seq h1,fun p hp=>(k.step (s1.trans st)).lst st.s ((h2.mono st.g).cut l u).lW hp⟩
theorem wK {id:String}{x:Str}{r:List V->Hp->VK->Prop}(hc:∀ i,fm (F.cx i) (.builtin id) r)(hm:F.mg x=none)(hv:bootBuiltins x=some (.builtin id))(ha:fF F (e::es) ρ ts)(h:∀ G H xs Q,ai G H->aU F.K G (dz ts) xs->Kv F.K G H t Q->r xs H Q){p':Pos}(hg:∀ i,Gl (F.cx i) x:=by intro _;rfl)(hn:x ≠ "__name__" := by decide)(hdb:(x==("__debug__" : Str))=false:=by decide)(he:∀ i,starEach (e::es) (F.cx i).env=(false,eval e (F.cx i).env)::starEach es (F.cx i).env:=by intro _;rfl)(cv:∀ i,(backTo pos (starEach es (F.cx i).env)).any (·.1)=false:=by intro _;rfl):Ev F (.Call (.Name x p') (e::es) [] pos) ρ t:=by
 obtain ⟨τ,y,z⟩:=ha.use
 refine ⟨nr r τ,fun i=>fL (hc i) (hg i) ((F.hm i).symm ▸ hm) hv (y i) hn hdb (he i) (cv i),fun σ G H Q s rr k=>z σ G H _ s rr fun vs G1 H1 s1 hx=>?_⟩
 exact h G1 H1 vs Q s1.s hx (k.step s1)
theorem wL {T:String}{x:Str}{r:List V->Hp->VK->Prop}(hc:∀ i,fm (F.cx i) (.type T) r)(hm:F.mg x=none)(hv:bootBuiltins x=some (.type T))(ha:fF F (e::es) ρ ts)(h:∀ G H xs Q,ai G H->aU F.K G (dz ts) xs->Kv F.K G H t Q->r xs H Q){p':Pos}(hg:∀ i,Gl (F.cx i) x:=by intro _;rfl)(hn:x ≠ "__name__" := by decide)(hdb:(x==("__debug__" : Str))=false:=by decide)(he:∀ i,starEach (e::es) (F.cx i).env=(false,eval e (F.cx i).env)::starEach es (F.cx i).env:=by intro _;rfl)(cv:∀ i,(backTo pos (starEach es (F.cx i).env)).any (·.1)=false:=by intro _;rfl):Ev F (.Call (.Name x p') (e::es) [] pos) ρ t:=by
 obtain ⟨τ,y,z⟩:=ha.use
 refine ⟨nr r τ,fun i=>wG (hc i) (hg i) ((F.hm i).symm ▸ hm) hv (y i) hn hdb (he i) (cv i),fun σ G H Q s rr k=>z σ G H _ s rr fun vs G1 H1 s1 hx=>?_⟩
 exact h G1 H1 vs Q s1.s hx (k.step s1)
theorem iU {K:Frag}{G:Hp}{d:Dv}{xs:List V}(h:aU K G [d] xs):∃ x,xs=[x]/\Hv K G d x:=by
 obtain ⟨x,r,h1,h2,h3⟩:=h
 exact ⟨x,by rw [h1,show r=[] from h3],h2⟩
theorem YG {K:Frag}{G:Hp}{d d':Dv}{xs:List V}(h:aU K G [d,d'] xs):∃ x y,xs=[x,y]/\Hv K G d x/\Hv K G d' y:=by
 obtain ⟨x,r,h1,h2,h3⟩:=h
 obtain ⟨y,rfl,h4⟩:=iU h3
 exact ⟨x,y,h1,h2,h4⟩
theorem bK {xs:List Dv}(hm:F.mg "len" = none)(ha:Ev F e ρ ta)(ea:er ta=.lst xs\/er ta=.tup xs){p':Pos}(hg:∀ i,Gl (F.cx i) "len" := by intro _;rfl)(hs:∀ i,starEach [e] (F.cx i).env=[(false,eval e (F.cx i).env)]:=by intro _;rfl):Ev F (.Call (.Name "len" p') [e] [] pos) ρ (ti xs.length) :=
 wK (r:=fun xs H Q=>∃ p ys,xs=[.ref p]/\(aF F.K H p ys\/eM F.K H p ys)/\Q (.int ys.length) H) (fun i=>Ud (F.hK i)) hm xB (ah ha ao hs) (fun G H vs Q s hx k=>by
  obtain ⟨x,rfl,lX⟩:=iU hx
  replace hx:=lX
  rcases ea with ea | ea
  ·rw [ea] at hx
   obtain ⟨l,ys,rfl,h1,h2⟩:=hx
   exact ⟨l,ys,rfl,.inl (s.seq h1),by rw [<- h2.length];exact k.sc s rfl⟩
  ·rw [ea] at hx
   obtain ⟨l,ys,rfl,h1,h2⟩:=hx
   exact ⟨l,ys,rfl,.inr (s.tup h1),by rw [<- h2.length];exact k.sc s rfl⟩) hg (by decide) (by decide) hs (fun _=>rfl)
theorem Ly {xs:List Dv}(hm:F.mg "list" = none)(ha:Ev F e ρ ta)(ea:er ta=.lst xs\/er ta=.tup xs){p':Pos}(hg:∀ i,Gl (F.cx i) "list" := by intro _;rfl)(hs:∀ i,starEach [e] (F.cx i).env=[(false,eval e (F.cx i).env)]:=by intro _;rfl):Ev F (.Call (.Name "list" p') [e] [] pos) ρ (.ow (xs.map .fz)) :=
 wL (r:=fun xs H Q=>∃ p ys,xs=[.ref p]/\(aF F.K H p ys\/eM F.K H p ys)/\∀ l,H l=none->Q (.ref l) (upd H l (.lst ys))) (fun i=>F.hK i ▸ SJ) hm Lr (ah ha ao hs) (fun G H vs Q s hx k=>by
  obtain ⟨x,rfl,lX⟩:=iU hx
  replace hx:=lX
  rcases ea with ea | ea
  ·rw [ea] at hx
   obtain ⟨l,ys,rfl,h1,h2⟩:=hx
   exact ⟨l,ys,rfl,.inl (s.seq h1),fun p hp=>k.lst s h2.lW hp⟩
  ·rw [ea] at hx
   obtain ⟨l,ys,rfl,h1,h2⟩:=hx
   exact ⟨l,ys,rfl,.inr (s.tup h1),fun p hp=>k.lst s h2.lW hp⟩) hg (by decide) (by decide) hs (fun _=>rfl)
def Gy:Dv->Value
 | .fl .aN=>.type "NoneType"
 | .fl (.bl _)=>.type "bool"
 | .fl (.int _)=>.type "int"
 | .fl (.str _)=>.type "str"
 | .fl _=>.none
 | .lst _=>.type "list"
 | .tup _=>.type "tuple"
def Od (K:Frag)(d:Dv)(n:String)(b:Bool):List V->Hp->VK->Prop:=fun xs H Q=>∃ x,xs=[x,.ty n]/\Hv K H d x/\kitOne K (Gy d) (.type n)=some b/\Q (.bl b) H
theorem U1 {X:Cx}{d:Dv}{n:String}{b:Bool}:fm X (.builtin "isinstance") (Od X.K d n b):=by
 intro pins s σ H xs us Q I r h
 obtain ⟨x,rfl,hx,hb,q⟩:=h
 cases r with
 |cons r1 rr=>cases rr with
  |cons r2 rr =>
   cases rr
   cases (show _=Value.type n from r2)
   have fin:∀ tk,EP X pins σ Q (.bool b) { s with toks:=tk }:=fun tk=>⟨.bl b,H,I.tok tk,rfl,q⟩
   cases d with
   |fl v =>
    obtain ⟨rfl,f⟩:=hx
    cases x with
    |aN=>exact wF I r1 .aN hb fin
    |bl y=>exact wF I r1 (.bl y) hb fin
    |int y=>exact wF I r1 (.int y) hb fin
    |str y=>exact wF I r1 (.str y) hb fin
    |jk y=>cases f
    |oR y=>cases f
    |ref y=>cases f
    |ty y=>cases f
   |lst ds =>
    obtain ⟨a,xs,rfl,h1,_⟩:=hx
    cases r1
    obtain ⟨its,_,⟨o,n,h2,h3,_⟩,_⟩:=I.list h1
    exact ab7 acH I.cB ⟨o,h2,h3⟩ hb (fun z=>nomatch z) fin
   |tup ds =>
    obtain ⟨a,xs,rfl,h1,_⟩:=hx
    cases r1
    obtain ⟨its,_,⟨o,h2,h3,_⟩,_⟩:=I.tuple h1
    exact ab7 PySem.W.kitx_tuple I.cB ⟨o,h2,h3⟩ hb (fun z=>nomatch z) fin
theorem vh {x:Str}{n:String}{bo:Bool}(hm:F.mg "isinstance" = none)(kK:F.mg x=none)(hv:bootBuiltins x=some (.type n))(ha:Ev F e ρ ta)(hk:kitOne F.K (Gy (er ta)) (.type n)=some bo){p' p2:Pos}(hg:∀ i,Gl (F.cx i) "isinstance" := by intro _;rfl)(nG:∀ i,Gl (F.cx i) x:=by intro _;rfl)(hn:x ≠ "__name__" := by decide)(hd:(x==("__debug__" : Str))=false:=by decide)(hs:∀ i,starEach [e,.Name x p2] (F.cx i).env=[(false,eval e (F.cx i).env),(false,eval (.Name x p2) (F.cx i).env)]:=by intro _;rfl):Ev F (.Call (.Name "isinstance" p') [e,.Name x p2] [] pos) ρ (tb bo):=by
 obtain ⟨τ,y,z⟩:=ha.use
 refine ⟨nr (Od F.K (er ta) n bo) (aT τ (aT (tC (.ty n)) ck)),fun i=>fL (F.hK i ▸ U1) (hg i) ((F.hm i).symm ▸ hm) gZ (au (y i) (au (Lf (v:=.ty n) (nG i) ((F.hm i).symm ▸ kK) hv rfl hn hd) aV rfl) (hs i)) (by decide) (by decide) (hs i) rfl,fun σ G H Q s rr k=>z σ G H _ s rr fun vs G1 H1 s1 hx=>?_⟩
 exact ⟨vs,rfl,hx.mono s1.s,hk,(k.step s1).sc s1.s rfl⟩
def spT (K:Frag)(R:List Dv->Tr->Prop):Sp:=fun vs H Q _=>∃ G ds t,ai G H/\aU K G ds vs/\R ds t/\Kv K G H t Q
theorem bZ {k:Nat}{f:Addr}{fd:FuncData}{ps:List Str}{R:List Dv->Tr->Prop}{x:Str}(Fn:Kn F.P F.w F.K F.mg F.base aG k x f fd ps (spT F.K R))(hk:k<=F.room)(ha:fF F (e::es) ρ ts)(hR:R (dz ts) t){p':Pos}(hg:∀ i,Gl (F.cx i) x:=by intro _;rfl)(hdb:(x==("__debug__" : Str))=false:=by decide)(he:∀ i,starEach (e::es) (F.cx i).env=(false,eval e (F.cx i).env)::starEach es (F.cx i).env:=by intro _;rfl)(cv:∀ i,(backTo pos (starEach es (F.cx i).env)).any (·.1)=false:=by intro _;rfl):Ev F (.Call (.Name x p') (e::es) [] pos) ρ t:=by
 obtain ⟨τ,y,z⟩:=ha.use
 refine ⟨vo (spT F.K R) [] E0 τ,fun i=>?_,fun σ G H Q s rr k=>z σ G H _ s rr fun vs G1 H1 s1 hx=>?_⟩
 ·have tU:Kn (F.cx i).prog (F.cx i).w (F.cx i).K (F.cx i).mg (F.cx i).base aG k x f fd ps (spT F.K R):=by
   rw [F.hP i,F.hw i,F.hK i,F.hm i,F.hb i]
   exact Fn
  exact Ey tU ((F.hr i).mono hk) (hg i) (y i) hdb (he i) (cv i)
 ·show spT F.K R (vs++[]) H1 Q E0
  rw [CS]
  exact ⟨G1,_,t,s1.s,hx,hR,k.step s1⟩
end
def aJ (K:Frag)(G H:Hp):En->St->List Addr->Prop
 |[],σ,fp=>σ=[]/\fp=[]
 |none::ρ,σ,fp=>∃ o r,σ=o::r/\aJ K G H ρ r fp
 |some t::ρ,σ,fp=>∃ v r f1 f2,σ=some v::r/\fp=f1++f2/\Ow K G H t v f1/\aJ K G H ρ r f2
theorem aJ.mono {K:Frag}{G G' H H':Hp}(e:ai G G')(e':ai H H'):∀ {ρ:En} {σ:St} {fp:List Addr},aJ K G H ρ σ fp->aJ K G' H' ρ σ fp
 |[],_,_,h=>h
 |none::_,_,_,⟨o,r,h1,h2⟩=>⟨o,r,h1,aJ.mono e e' h2⟩
 |some _::_,_,_,⟨v,r,f1,f2,h1,h2,h3,h4⟩=>⟨v,r,f1,f2,h1,h2,h3.mono e e',aJ.mono e e' h4⟩
theorem aJ.frame {K:Frag}{G H:Hp}{a:Addr}{o:HO}:∀ {ρ:En} {σ:St} {fp:List Addr},aJ K G H ρ σ fp->a ∉ fp->aJ K G (upd H a o) ρ σ fp
 |[],_,_,h,_=>h
 |none::_,_,_,⟨o,r,h1,h2⟩,n=>⟨o,r,h1,aJ.frame h2 n⟩
 |some _::_,_,_,⟨v,r,f1,f2,h1,h2,h3,h4⟩,n=>by
  subst h2
  exact ⟨v,r,f1,f2,h1,rfl,h3.frame fun z=>n (rf _ z),aJ.frame h4 fun z=>n (ff _ z)⟩
theorem aJ.there {K:Frag}{G H:Hp}:∀ {ρ:En} {σ:St} {fp:List Addr},aJ K G H ρ σ fp->∀ a ∈ fp,∃ o,H a=some o
 |[],_,_,⟨_,h⟩,a,ha=>by subst h;cases ha
 |none::_,_,_,⟨o,r,h1,h2⟩,a,ha=>aJ.there h2 a ha
 |some _::_,_,_,⟨v,r,f1,f2,h1,h2,h3,h4⟩,a,ha=>by
  subst h2
  rcases ij.mp ha with ha | ha
  ·exact h3.there a ha
  ·exact aJ.there h4 a ha
theorem aJ.off {K:Frag}{G H G1 H1:Hp}{ρ:En}{σ:St}{fp:List Addr}(r:aJ K G H ρ σ fp)(s1:Step G H G1 H1)(g:∀ a ∈ fp,G a=none):∀ a ∈ fp,G1 a=none:=fun a ha=>by
 cases q:G1 a with
 |none=>rfl
 |some u =>
  obtain ⟨u',bz⟩:=r.there a ha
  have:=s1.n a (g a ha) (by rw [q];exact fun z=>nomatch z)
  rw [bz] at this
  cases this
theorem aJ.lY {K:Frag}{G H:Hp}:∀ {ρ:En} {σ:St} {fp:List Addr},aJ K G H ρ σ fp->bH K G ρ σ
 |[],_,_,_,j,d,h=>by cases j<;>cases h
 |none::_,_,_,⟨o,r,h1,h2⟩,0,d,h=>by cases h
 |none::_,_,_,⟨o,r,h1,h2⟩,j+1,d,h=>by subst h1;exact aJ.lY h2 j d h
 |some _::_,_,_,⟨v,r,f1,f2,h1,h2,h3,h4⟩,0,d,h=>by cases h;subst h1;exact ⟨v,rfl,h3.2⟩
 |some _::_,_,_,⟨v,r,f1,f2,h1,h2,h3,h4⟩,j+1,d,h=>by subst h1;exact aJ.lY h4 j d h
def pk (ρ:En):En:=ρ.map (Option.map fun t=>.fz (er t))
theorem aJ.pk {K:Frag}{G H G':Hp}(e:ai G G'):∀ {ρ:En} {σ:St} {fp:List Addr},aJ K G H ρ σ fp->(∀ a ∈ fp,G' a=H a)->bH K G' (pk ρ) σ
 |[],_,_,_,_,j,d,h=>by cases j<;>cases h
 |none::_,_,_,⟨o,r,h1,h2⟩,_,0,d,h=>by cases h
 |none::_,_,_,⟨o,r,h1,h2⟩,q,j+1,d,h=>by subst h1;exact aJ.pk e h2 q j d h
 |some _::_,_,_,⟨v,r,f1,f2,h1,h2,h3,h4⟩,q,0,d,h=>by
  cases h;subst h1 h2;exact ⟨v,rfl,h3.hv e fun a ha=>q a (rf _ ha)⟩
 |some _::_,_,_,⟨v,r,f1,f2,h1,h2,h3,h4⟩,q,j+1,d,h=>by
  subst h1 h2;exact aJ.pk e h4 (fun a ha=>q a (ff _ ha)) j d h
theorem aJ.split {K:Frag}{G H:Hp}:∀ {ρ:En} {σ:St} {fp:List Addr} {j:Nat} {t:Tr},aJ K G H ρ σ fp->ρ[j]?=some (some t) ->
  ∃ v f fr,σ[j]?=some (some v)/\Ow K G H t v f/\aJ K G H (ρ.set j none) σ fr/\fp.Perm (f++fr)
 |none::_,_,_,0,_,_,h=>by cases h
 |none::_,_,_,j+1,t,⟨o,r,h1,h2⟩,h=>by
  subst h1
  obtain ⟨v,f,fr,q1,q2,q3,q4⟩:=aJ.split (j:=j) h2 h
  exact ⟨v,f,fr,q1,q2,⟨o,r,rfl,q3⟩,q4⟩
 |some _::_,_,_,0,t,⟨v,r,f1,f2,h1,h2,h3,h4⟩,h=>by
  cases h;subst h1 h2
  exact ⟨v,f1,f2,rfl,h3,⟨some v,r,rfl,h4⟩,.refl _⟩
 |some _::_,_,_,j+1,t,⟨v,r,f1,f2,h1,h2,h3,h4⟩,h=>by
  subst h1 h2
  obtain ⟨v',f,fr,q1,q2,q3,q4⟩:=aJ.split (j:=j) h4 h
  refine ⟨v',f,f1++fr,q1,q2,⟨v,r,f1,fr,rfl,rfl,h3,q3⟩,?_⟩
  refine (abu f1 q4).trans ?_
  rw [<- GS,<- GS]
  exact List.Perm.append_right fr List.perm_append_comm
theorem aJ.forget {K:Frag}{G H:Hp}:∀ {ρ:En} {σ:St} {fp:List Addr} (j:Nat),aJ K G H ρ σ fp->∃ fr,aJ K G H (ρ.set j none) σ fr/\fr.Sublist fp
 |[],_,_,_,h=>⟨_,h,.refl _⟩
 |none::_,_,_,0,⟨o,r,h1,h2⟩=>⟨_,⟨o,r,h1,h2⟩,.refl _⟩
 |none::_,_,_,j+1,⟨o,r,h1,h2⟩=>by
  obtain ⟨fr,q1,q2⟩:=aJ.forget j h2
  exact ⟨fr,⟨o,r,h1,q1⟩,q2⟩
 |some _::_,_,_,0,⟨v,r,f1,f2,h1,h2,h3,h4⟩=>⟨f2,⟨some v,r,h1,h4⟩,h2 ▸ List.sublist_append_right _ _⟩
 |some _::_,_,_,j+1,⟨v,r,f1,f2,h1,h2,h3,h4⟩=>by
  obtain ⟨fr,q1,q2⟩:=aJ.forget j h4
  exact ⟨f1++fr,⟨v,r,f1,fr,h1,rfl,h3,q1⟩,h2 ▸ List.Sublist.append (.refl _) q2⟩
theorem aJ.put {K:Frag}{G H:Hp}:∀ {ρ:En} {σ:St} {fr:List Addr} {j:Nat} {t:Tr} {v:V} {f:List Addr},aJ K G H ρ σ fr->ρ[j]?=some none->Ow K G H t v f ->
  ∃ fp,aJ K G H (ρ.set j (some t)) (σ.set j (some v)) fp/\fp.Perm (f++fr)
 |none::_,_,fr,0,t,v,f,⟨o,r,h1,h2⟩,_,w=>by subst h1;exact ⟨_,⟨v,r,f,fr,rfl,rfl,w,h2⟩,.refl _⟩
 |none::_,_,_,j+1,t,v,f,⟨o,r,h1,h2⟩,h,w=>by
  subst h1
  obtain ⟨fp,q1,q2⟩:=aJ.put (j:=j) h2 h w
  exact ⟨fp,⟨o,_,rfl,q1⟩,q2⟩
 |some _::_,_,_,0,_,_,_,_,h,_=>by cases h
 |some _::_,_,_,j+1,t,v,f,⟨v',r,f1,f2,h1,h2,h3,h4⟩,h,w=>by
  subst h1 h2
  obtain ⟨fp,q1,q2⟩:=aJ.put (j:=j) h4 h w
  refine ⟨f1++fp,⟨v',_,f1,fp,rfl,rfl,h3,q1⟩,?_⟩
  refine (abu f1 q2).trans ?_
  rw [<- GS,<- GS]
  exact List.Perm.append_right f2 List.perm_append_comm
theorem aJ.len {K:Frag}{G H:Hp}:∀ {ρ:En} {σ:St} {fp:List Addr},aJ K G H ρ σ fp->ρ.length=σ.length
 |[],_,_,⟨h,_⟩=>by rw [h];rfl
 |none::_,_,_,⟨o,r,h1,h2⟩=>by subst h1;rw [mf,mf,aJ.len h2]
 |some _::_,_,_,⟨v,r,f1,f2,h1,h2,h3,h4⟩=>by subst h1;rw [mf,mf,aJ.len h4]
structure dU (K:Frag) (G0 H0 G H:Hp) (ρ:En) (σ:St) (fp:List Addr):Prop where
 st:Step G0 H0 G H
 own:aJ K G H ρ σ fp
 g:∀ a ∈ fp,G a=none
 n:∀ a ∈ fp,H0 a=none
 d:fp.Nodup
def RS (K:Frag)(G0 H0 G H:Hp)(ρ:En)(σ:St):Prop:=∃ fp,dU K G0 H0 G H ρ σ fp
theorem Bx {α:Type}{ρ:List (Option α)}{j:Nat}(h:j < ρ.length):(ρ.set j none)[j]?=some none:=by rw [aca];simp [h]
theorem dU.forget {K:Frag}{G0 H0 G H:Hp}{ρ:En}{σ:St}{fp:List Addr}(r:dU K G0 H0 G H ρ σ fp)(j:Nat):∃ fr,dU K G0 H0 G H (ρ.set j none) σ fr/\fr.Sublist fp:=by
 obtain ⟨fr,q1,q2⟩:=r.own.forget j
 exact ⟨fr,⟨r.st,q1,fun a ha=>r.g a (q2.subset ha),fun a ha=>r.n a (q2.subset ha),r.d.sublist q2⟩,q2⟩
theorem RS.forget {K:Frag}{G0 H0 G H:Hp}{ρ:En}{σ:St}(r:RS K G0 H0 G H ρ σ)(j:Nat):RS K G0 H0 G H (ρ.set j none) σ:=by
 obtain ⟨fp,r⟩:=r
 obtain ⟨fr,q,_⟩:=r.forget j
 exact ⟨fr,q⟩
theorem dU.set {K:Frag}{G0 H0 G H G1 H1:Hp}{ρ:En}{σ:St}{fp fq:List Addr}{j:Nat}{t:Tr}{v:V}(r:dU K G0 H0 G H ρ σ fp)(hj:j < ρ.length)(e:Step G H G1 H1)(o:Ow K G1 H1 t v fq)(w:Nw H G1 fq) :
  RS K G0 H0 G1 H1 (ρ.set j (some t)) (σ.set j (some v)):=by
 obtain ⟨fr,r1,sub⟩:=r.forget j
 have YH:=r1.own.mono e.g e.h
 obtain ⟨gu,q1,q2⟩:=YH.put (Bx hj) o
 rw [acT] at q1
 have dis:∀ a ∈ fq,∀ b ∈ fr,a ≠ b:=fun a ha b hb z=>by
  subst z
  obtain ⟨u,hu⟩:=r1.own.there a hb
  rw [w.n a ha] at hu;cases hu
 refine ⟨gu,r.st.trans e,q1,fun a ha=>?_,fun a ha=>?_,q2.nodup_iff.mpr (ue.mpr ⟨w.d,r1.d,dis⟩)⟩
 ·rcases ij.mp (q2.mem_iff.mp ha) with z | z
  ·exact w.g a z
  ·cases q:G1 a with
   |none=>rfl
   |some u =>
    obtain ⟨u',bz⟩:=r1.own.there a z
    have:=e.n a (r1.g a z) (by rw [q];exact fun z=>nomatch z)
    rw [bz] at this;cases this
 ·rcases ij.mp (q2.mem_iff.mp ha) with z | z
  ·exact r.st.h.free (w.n a z)
  ·exact r1.n a z
def less (H:Hp)(fp:List Addr):Hp:=fun a=>if a ∈ fp then none else H a
theorem DL {H:Hp}{fp:List Addr}{a:Addr}(h:a ∈ fp):less H fp a=none:=by unfold less;rw [Cn h]
theorem si {H:Hp}{fp:List Addr}{a:Addr}(h:a ∉ fp):less H fp a=H a:=by unfold less;rw [AM h]
theorem Kw {H:Hp}{fp:List Addr}:ai (less H fp) H:=fun b o e=>by
 by_cases q:b ∈ fp
 ·rw [DL q] at e;cases e
 ·rw [si q] at e;exact e
theorem JW {G H:Hp}{fp:List Addr}(s:ai G H)(h:∀ a ∈ fp,G a=none):ai G (less H fp):=fun b o e=>by
 by_cases q:b ∈ fp
 ·rw [h b q] at e;cases e
 ·rw [si q];exact s b o e
theorem dU.rebase {K:Frag}{G0 H0 G H:Hp}{ρ:En}{σ:St}{fp:List Addr}(r:dU K G0 H0 G H ρ σ fp):dU K G (less H fp) G H ρ σ fp :=
 ⟨⟨ai.refl _,Kw,r.st.s,fun a h h'=>absurd h h'⟩,r.own,r.g,fun a ha=>DL ha,r.d⟩
theorem dU.base {K:Frag}{G0 H0 G H:Hp}{ρ:En}{σ:St}{fp:List Addr}(r:dU K G0 H0 G H ρ σ fp):Step G0 H0 G (less H fp) :=
 ⟨r.st.g,JW r.st.h r.n,JW r.st.s r.g,r.st.n⟩
theorem RS.under {K:Frag}{G0 H0 G1 H1 G H:Hp}{ρ:En}{σ:St}(e:Step G0 H0 G1 H1)(r:RS K G1 H1 G H ρ σ):RS K G0 H0 G H ρ σ:=by
 obtain ⟨fp,r⟩:=r
 exact ⟨fp,e.trans r.st,r.own,r.g,fun a ha=>e.h.free (r.n a ha),r.d⟩
inductive Out where
 |nx (ρ:En)
 |rt (t:Tr)
def yi (K:Frag)(G0 H0:Hp)(D:Ends):Out->Prop
 | .nx ρ => ∀ σ G H,RS K G0 H0 G H ρ σ->D.nx σ H
 | .rt t=>∀ v G H fq,Step G0 H0 G H->Ow K G H t v fq->Nw H0 G fq->D.rt v H
theorem yi.under {K:Frag}{G0 H0 G1 H1:Hp}{D:Ends}{o:Out}(e:Step G0 H0 G1 H1)(p:yi K G0 H0 D o):yi K G1 H1 D o:=by
 cases o with
 |nx ρ => exact fun σ G H r=>p σ G H (r.under e)
 |rt t=>exact fun v G H fq s o w=>p v G H fq (e.trans s) o ⟨fun a ha=>e.h.free (w.n a ha),w.g,w.d⟩
def P7 (K:Frag)(τ:TS)(ρ:En)(o:Out):Prop:=∀ D σ G0 H0 G H,RS K G0 H0 G H ρ σ->yi K G0 H0 D o->τ D σ H
section
variable {ι:Type}
def Rn (F:aQ ι)(st:Stmt)(ρ:En)(o:Out):Prop:=∃ τ:TS,(∀ i,PS (F.cx i) st τ)/\P7 F.K τ ρ o
def cz (F:aQ ι)(bh:List Stmt)(ρ:En)(o:Out):Prop:=∃ τ:TS,(∀ i,df (F.cx i) bh τ)/\P7 F.K τ ρ o
def cF (F:aQ ι)(e:Expr)(ρ:En)(t:Tr):Prop:=∃ τ:TE,(∀ i,PE (F.cx i) e τ)/\∀ σ G H fp Q,ai G H->aJ F.K G H ρ σ fp->(∀ a ∈ fp,G a=none)->Kv F.K G H t Q->τ σ H Q
def cG (F:aQ ι)(e:Expr)(ρ:En)(b:Bool):Prop:=∃ τ:TT,(∀ i,PT (F.cx i) e τ)/\∀ σ G H fp Q,ai G H->aJ F.K G H ρ σ fp->(∀ a ∈ fp,G a=none)->(∀ G' H',Step G H G' H'->Q b H')->τ σ H Q
variable {F:aQ ι}{e a b c:Expr}{es:List Expr}{ρ ρ1:En}{t:Tr}{ts:List Tr}{pos:Pos}{o:Out}{st:Stmt}{bh A B:List Stmt}
theorem Ev.s (h:Ev F e ρ t):cF F e ρ t:=let ⟨τ,x,y⟩:=h;⟨τ,x,fun σ G H fp Q s r _ k=>y σ G H Q s r.lY k⟩
theorem Et.s {p:Bool}(h:Et F e ρ p):cG F e ρ p:=let ⟨τ,x,y⟩:=h;⟨τ,x,fun σ G H fp Q s r _ k=>y σ G H Q s r.lY k⟩
mutual
def Cl:Tr->Prop
 | .fz (.fl _)=>True
 | .fz _=>False
 | .ow ts=>oH ts
 | .tp ts=>oH ts
def oH:List Tr->Prop
 |[] => True
 |t::ts=>Cl t/\oH ts
end
mutual
theorem Ow.cl {K:Frag}{G G' H:Hp}:∀ {t:Tr} {v:V} {fp:List Addr},Cl t->Ow K G H t v fp->Ow K G' H t v fp
 | .fz (.fl _),_,_,_,h=>h
 | .fz (.lst _),_,_,c,_=>c.elim
 | .fz (.tup _),_,_,c,_=>c.elim
 | .ow _,_,_,c,⟨b,vs,fq,h1,h2,h3,h4⟩=>⟨b,vs,fq,h1,h2,aM.cl c h3,h4⟩
 | .tp _,_,_,c,⟨b,vs,fq,h1,h2,h3,h4⟩=>⟨b,vs,fq,h1,h2,aM.cl c h3,h4⟩
theorem aM.cl {K:Frag}{G G' H:Hp}:∀ {ts:List Tr} {vs:List V} {fp:List Addr},oH ts->aM K G H ts vs fp->aM K G' H ts vs fp
 |[],_,_,_,h=>h
 |_::_,_,_,⟨c1,c2⟩,⟨v,r,f1,f2,h1,h2,h3,h4⟩=>⟨v,r,f1,f2,h1,h2,h3.cl c1,aM.cl c2 h4⟩
end
theorem Lz:∀ ns:LI,oH (ns.map fun n=>Tr.fz (di n))
 |[] => True.intro
 |_::ns=>⟨True.intro,Lz ns⟩
theorem Ev.pk (h:Ev F e (pk ρ) t)(c:Cl t):cF F e ρ t:=by
 obtain ⟨τ,x,y⟩:=h
 refine ⟨τ,x,fun σ G H fp Q s r hg k=>?_⟩
 refine y σ (eK G H fp) H Q (mF s) (r.pk (jK hg) fun a ha=>jM ha) fun v G' H' fq st o w=>?_
 refine k v G H' fq ⟨ai.refl _,st.h,s.trans st.h,fun a h h'=>absurd h h'⟩ (o.cl c) ⟨w.n,fun a ha=>s.free (w.n a ha),w.d⟩
theorem Et.pk {p:Bool}(h:Et F e (pk ρ) p):cG F e ρ p:=by
 obtain ⟨τ,x,y⟩:=h
 refine ⟨τ,x,fun σ G H fp Q s r hg k=>?_⟩
 refine y σ (eK G H fp) H Q (mF s) (r.pk (jK hg) fun a ha=>jM ha) fun G' H' st=>?_
 exact k G H' ⟨ai.refl _,st.h,s.trans st.h,fun a h h'=>absurd h h'⟩
theorem LA:cz F [] ρ (.nx ρ):=⟨fP,fun _=>fh,fun D σ G0 H0 G H r k=>k σ G H r⟩
theorem aE (h1:Rn F st ρ (.nx ρ1))(h2:cz F bh ρ1 o):cz F (st::bh) ρ o:=by
 obtain ⟨τ,x,y⟩:=h1
 obtain ⟨bX,x',y'⟩:=h2
 exact ⟨cq τ bX,fun i=>bM (x i) (x' i),fun D σ G0 H0 G H r k=>y _ σ G0 H0 G H r fun ak G1 H1 r1=>y' D ak G0 H0 G1 H1 r1 k⟩
theorem uM (h1:Rn F st ρ (.rt t)):cz F (st::bh) ρ (.rt t):=by
 obtain ⟨τ,x,y⟩:=h1
 exact ⟨cq τ iy,fun i=>bM (x i) iZ,fun D σ G0 H0 G H r k=>y _ σ G0 H0 G H r k⟩
theorem aS (h1:Rn F st ρ o):cz F [st] ρ o:=by
 obtain ⟨τ,x,y⟩:=h1
 exact ⟨τ,fun i=>mI (x i),y⟩
theorem bS (j:Nat){x:Str}{pos':Pos}(he:cF F e ρ t)(hN:∀ i,(F.cx i).N.Nodup)(hj:Nat.blt j ρ.length=true:=by rfl)(hi:∀ i,(F.cx i).N[j]?=some x:=by intro _;rfl)(hx:∀ i,Loc (F.cx i).env.scope x:=by intro _;first | exact Or.inl rfl | exact Or.inr rfl)(hs:∀ i,swapsWith e (some (.Name x pos')) pos.line (F.cx i).env=pure false:=by intro _;rfl)(hf:∀ i,(F.cx i).fn x=true\/(F.cx i).env.scope.names.lookup x=some .local:=by intro _;first | exact .inl rfl | exact .inr rfl) :
  Rn F (.Assign [.Name x pos'] e pos) ρ (.nx (ρ.set j (some t))):=by
 obtain ⟨τ,y,z⟩:=he
 refine ⟨hU τ (dZ j),fun i=>lD (hN i) (hi i) (hx i) (y i) (hs i) (hf i),fun D σ G0 H0 G H r k=>?_⟩
 obtain ⟨fp,r⟩:=r
 exact z σ G H fp _ r.st.s r.own r.g fun v G1 H1 fq s1 o w=>k _ G1 H1 (r.set (abq hj) s1 o w)
theorem de (he:cF F e ρ t):Rn F (.Return (some e) pos) ρ (.rt t):=by
 obtain ⟨τ,y,z⟩:=he
 refine ⟨m8 τ,fun i=>og (y i),fun D σ G0 H0 G H r k=>?_⟩
 obtain ⟨fp,r⟩:=r
 exact z σ G H fp _ r.st.s r.own r.g fun v G1 H1 fq s1 o w=>k v G1 H1 fq (r.st.trans s1) o ⟨fun a ha=>r.st.h.free (w.n a ha),w.g,w.d⟩
theorem VZ (j:Nat){x:Str}{p':Pos}(h : ρ[j]?=some (some t))(hN:∀ i,(F.cx i).N[j]?=some x:=by intro _;rfl)(hv:∀ i,kC (F.cx i).env.scope x:=by intro _;first | exact Or.inl rfl | exact Or.inr (Or.inl rfl) | exact Or.inr (Or.inr rfl))(hd:(x==("__debug__" : Str))=false:=by decide)(hc:(x==("__classdict__" : Str))=false:=by decide):Rn F (.Return (some (.Name x p')) pos) ρ (.rt t):=by
 refine ⟨m8 (bD j),fun i=>og (p7 (hN i) (hv i) hd hc),fun D σ G0 H0 G H r k=>?_⟩
 obtain ⟨fp,r⟩:=r
 obtain ⟨v,f,fr,q1,q2,q3,q4⟩:=r.own.split h
 have sub:∀ a ∈ f,a ∈ fp:=fun a ha=>q4.mem_iff.mpr (rf _ ha)
 exact ⟨v,q1,k v G H f r.st q2 ⟨fun a ha=>r.n a (sub a ha),fun a ha=>r.g a (sub a ha),(ue.mp (q4.nodup_iff.mp r.d)).1⟩⟩
theorem pV (he:cF F e ρ t)(hs:∀ i,swapsWith e none pos.line (F.cx i).env=pure false:=by intro _;rfl):Rn F (.Expr e pos) ρ (.nx ρ):=by
 obtain ⟨τ,y,z⟩:=he
 refine ⟨fk τ,fun i=>eY (y i) (hs i),fun D σ G0 H0 G H r k=>?_⟩
 obtain ⟨fp,r⟩:=r
 refine z σ G H fp _ r.st.s r.own r.g fun v G1 H1 fq s1 o w=>k σ G1 H1 ⟨fp,r.st.trans s1,r.own.mono s1.g s1.h,r.own.off s1 r.g,r.n,r.d⟩
theorem Nh {p:Bool}(hc:cG F c ρ p)(h1:p=true->cz F A ρ o)(h2:p=false->cz F B ρ o):Rn F (.If c A B pos) ρ o:=by
 obtain ⟨τ,y,z⟩:=hc
 have key:∀ {G0 H0 G H G1 H1:Hp} {σ:St} {fp:List Addr},dU F.K G0 H0 G H ρ σ fp->Step G H G1 H1->RS F.K G0 H0 G1 H1 ρ σ:=fun {G0 H0 G H G1 H1 σ fp} r s1=>⟨fp,r.st.trans s1,r.own.mono s1.g s1.h,r.own.off s1 r.g,r.n,r.d⟩
 cases p with
 |true =>
  obtain ⟨bX,x',y'⟩:=h1 rfl
  refine ⟨gN τ bX iy,fun i=>i7 (y i) (x' i) iZ,fun D σ G0 H0 G H r k=>?_⟩
  obtain ⟨fp,r⟩:=r
  exact z σ G H fp _ r.st.s r.own r.g fun G1 H1 s1=>jX (y' D σ G0 H0 G1 H1 (key r s1) k)
 |false =>
  obtain ⟨bX,x',y'⟩:=h2 rfl
  refine ⟨gN τ iy bX,fun i=>i7 (y i) iZ (x' i),fun D σ G0 H0 G H r k=>?_⟩
  obtain ⟨fp,r⟩:=r
  exact z σ G H fp _ r.st.s r.own r.g fun G1 H1 s1=>nc (y' D σ G0 H0 G1 H1 (key r s1) k)
theorem Dc {α:Type}:∀ {l:List α} {j:Nat} {v : α},l[j]?=some v->l.set j v=l
 |_::_,0,_,h=>by cases h;rfl
 |_::_,j+1,_,h=>by rw [List.set_cons_succ,Dc (l:=_) (j:=j) h]
theorem Tq (j:Nat)(hj : ρ[j]?=some (some t))(h:cz F bh (ρ.set j (some (.fz (er t)))) o):cz F bh ρ o:=by
 obtain ⟨τ,x,y⟩:=h
 refine ⟨τ,x,fun D σ G0 H0 G H r k=>?_⟩
 obtain ⟨fp,r⟩:=r
 obtain ⟨v,f,fr,q1,q2,q3,q4⟩:=r.own.split hj
 have nd:=ue.mp (q4.nodup_iff.mp r.d)
 have sub:∀ a ∈ f,a ∈ fp:=fun a ha=>q4.mem_iff.mpr (rf _ ha)
 have Oe:∀ a ∈ fr,a ∈ fp:=fun a ha=>q4.mem_iff.mpr (ff _ ha)
 have sm:ai G (eK G H f):=jK fun a ha=>r.g a (sub a ha)
 have lt:j < ρ.length:=by
  rcases abL j ρ.length with z | z
  ·exact z
  ·rw [Lo z] at hj;cases hj
 obtain ⟨gu,p1,p2⟩:=(q3.mono sm (ai.refl _)).put (f:=[]) (t:=.fz (er t)) (Bx lt) ⟨rfl,q2.hv sm fun a ha=>jM ha⟩
 rw [acT,Dc q1] at p1
 refine y D σ G0 H0 (eK G H f) H ⟨gu,⟨r.st.g.trans sm,r.st.h,mF r.st.s,fun a h h'=>?_⟩,p1,fun a ha=>?_,fun a ha=>r.n a (Oe a (p2.mem_iff.mp ha)),p2.nodup_iff.mpr nd.2.1⟩ k
 ·by_cases z:a ∈ f
  ·exact r.n a (sub a z)
  ·rw [uC z] at h';exact r.st.n a h h'
 ·have z:=p2.mem_iff.mp ha
  rw [uC fun z'=>nd.2.2 a z' a z rfl]
  exact r.g a (Oe a z)
theorem dU.chg {K:Frag}{G0 H0 G H G1 H1:Hp}{ρ:En}{σ:St}{fp:List Addr}{j:Nat}{t:Tr}(r:dU K G0 H0 G H ρ σ fp)(hj : ρ[j]?=some (some t))(s1:Step G H G1 H1) :
  ∃ v f,σ[j]?=some (some v)/\Ow K G H t v f/\Ow K G1 H1 t v f/\f.Nodup/\(∀ a ∈ f,a ∈ fp)/\∀ l o t' f',l ∈ f->Ow K G1 (upd H1 l o) t' v f'->f'.Nodup->(∀ a ∈ f',a ∈ f\/(H a=none/\G1 a=none))->RS K G0 H0 G1 (upd H1 l o) (ρ.set j (some t')) σ:=by
 obtain ⟨v,f,fr,q1,q2,q3,q4⟩:=r.own.split hj
 have dg:=ue.mp (q4.nodup_iff.mp r.d)
 have lZ:∀ a ∈ f,a ∈ fp:=fun a ha=>q4.mem_iff.mpr (rf _ ha)
 have vV:∀ a ∈ fr,a ∈ fp:=fun a ha=>q4.mem_iff.mpr (ff _ ha)
 have lt:j < ρ.length:=by
  rcases abL j ρ.length with z | z
  ·exact z
  ·rw [Lo z] at hj;cases hj
 have lG:∀ a ∈ fp,G1 a=none:=fun a ha=>by
  cases q:G1 a with
  |none=>rfl
  |some u =>
   obtain ⟨u',bz⟩:=r.own.there a ha
   have:=s1.n a (r.g a ha) (by rw [q];exact fun z=>nomatch z)
   rw [bz] at this;cases this
 refine ⟨v,f,q1,q2,q2.mono s1.g s1.h,dg.1,lZ,fun l o t' f' hl ow nw hw=>?_⟩
 have new:∀ a,H a=none->a ∉ fp:=fun a ha hb=>by
  obtain ⟨u,hu⟩:=r.own.there a hb
  rw [ha] at hu;cases hu
 have q3':aJ K G1 (upd H1 l o) (ρ.set j none) σ fr:=(q3.mono s1.g s1.h).frame fun z=>dg.2.2 l hl l z rfl
 obtain ⟨gu,P8,tT⟩:=q3'.put (Bx lt) ow
 rw [acT,Dc q1] at P8
 have Og:∀ a ∈ gu,a ∈ fp\/(H a=none/\G1 a=none):=fun a ha=>by
  rcases ij.mp (tT.mem_iff.mp ha) with z | z
  ·exact (hw a z).imp (lZ a) id
  ·exact .inl (vV a z)
 refine ⟨gu,⟨(r.st.trans s1).g,fun b u hb=>?_,fun b u hb=>?_,(r.st.trans s1).n⟩,P8,fun a ha=>?_,fun a ha=>?_,?_⟩
 ·have md:=(r.st.trans s1).h b u hb
  rw [ay fun z=>?_]
  ·exact md
  ·subst z;rw [r.n _ (lZ _ hl)] at hb;cases hb
 ·have md:=s1.s b u hb
  rw [ay fun z=>?_]
  ·exact md
  ·subst z;rw [lG _ (lZ _ hl)] at hb;cases hb
 ·exact (Og a ha).elim (lG a) fun z=>z.2
 ·exact (Og a ha).elim (r.n a) fun z=>r.st.h.free z.1
 ·refine tT.nodup_iff.mpr (ue.mpr ⟨nw,dg.2.1,fun a ha b hb z=>?_⟩)
  subst z
  rcases hw a ha with z | z
  ·exact dg.2.2 a z a hb rfl
  ·exact new a z.1 (vV a hb)
theorem dU.mut {K:Frag}{G0 H0 G H G1 H1:Hp}{ρ:En}{σ:St}{fp:List Addr}{j:Nat}{us:List Tr}(r:dU K G0 H0 G H ρ σ fp)(hj : ρ[j]?=some (some (.ow us)))(s1:Step G H G1 H1) :
  ∃ l vs fq,σ[j]?=some (some (.ref l))/\H l=some (.lst vs)/\H1 l=some (.lst vs)/\aM K G1 H1 us vs fq/\fq.Nodup/\(∀ a ∈ fq,a ∈ fp)/\∀ yG ws fw,aM K G1 H1 yG ws fw->fw.Nodup->(∀ a ∈ fw,a ∈ fq\/(H a=none/\G1 a=none))->RS K G0 H0 G1 (upd H1 l (.lst ws)) (ρ.set j (some (.ow yG))) σ:=by
 obtain ⟨v,f,q1,q2,q3,nd,lZ,q⟩:=r.chg hj s1
 obtain ⟨l,vs,fq,rfl,hl,ol,rfl⟩:=q3
 obtain ⟨l',vs',fq',e1,yH,_,e2⟩:=q2
 cases e1
 have ev:vs'=vs:=by
  have:=s1.h _ _ yH
  rw [hl] at this
  cases this;rfl
 subst ev
 have P9:=BB.mp nd
 refine ⟨l,vs',fq,q1,yH,hl,ol,P9.2,fun a ha=>lZ a (.tail _ ha),fun yG ws fw ow nw hw=>?_⟩
 have Qa:l ∉ fw:=fun z=>(hw l z).elim P9.1 fun z=>by rw [z.1] at yH;cases yH
 exact q l (.lst ws) (.ow yG) (l::fw) (.head _) ⟨l,ws,fw,rfl,bT,ow.frame Qa,rfl⟩ (BB.mpr ⟨Qa,nw⟩) fun a ha=>(gr.mp ha).elim (fun z=>.inl (z ▸ .head _)) fun z=>(hw a z).imp (fun z=>.tail _ z) id
theorem Cq (j:Nat){x:Str}{us:List Tr}{p1 p2 p3:Pos}(h : ρ[j]?=some (some (.ow us)))(he:cF F e ρ t)(hz:us.length<sizeLine)(hN:∀ i,(F.cx i).N[j]?=some x:=by intro _;rfl)(hv:∀ i,kC (F.cx i).env.scope x:=by intro _;first | exact Or.inl rfl | exact Or.inr (Or.inl rfl) | exact Or.inr (Or.inr rfl))(hd:(x==("__debug__" : Str))=false:=by decide)(hc:(x==("__classdict__" : Str))=false:=by decide)(d8:∀ i,attributeBase (.Name x p1) "append" (F.cx i).env (eval (.Name x p1) (F.cx i).env)=eval (.Name x p1) (F.cx i).env:=by intro _;rfl)(fS:∀ i,((backTo p3 (starEach [e] (F.cx i).env)).all (fun x=>!x.1)&&(backToKw p3 (keywordEach [] (F.cx i).env)).all (fun x=>x.1.isSome)&&decide (([e]:List Expr).length+([]:List Keyword).length+(if ([]:List Keyword).isEmpty then 0 else 1)<30))=true:=by intro _;rfl)(hline:(p2.endLine==p3.line)=true:=by rfl)(hs:∀ i,starEach [e] (F.cx i).env=[(false,eval e (F.cx i).env)]:=by intro _;rfl)(gV:∀ i,swapsWith (.Call (.Attribute (.Name x p1) "append" p2) [e] [] p3) none pos.line (F.cx i).env=pure false:=by intro _;rfl) :
  Rn F (.Expr (.Call (.Attribute (.Name x p1) "append" p2) [e] [] p3) pos) ρ (.nx (ρ.set j (some (.ow (us++[t]))))):=by
 obtain ⟨τ,y,z⟩:=he
 refine ⟨fk (eO F.K "list" lC (bD j) (aT τ ck)),fun i=>eY (F.hK i ▸ gK xy LP LS kf (p7 (hN i) (hv i) hd hc) (au (y i) aV (hs i)) (d8 i) (fS i) hline (hs i) rfl) (gV i),fun D σ G0 H0 G H r k=>?_⟩
 obtain ⟨fp,r⟩:=r
 obtain ⟨l0,Gz,GA,c1,c2,_⟩:=r.mut h (.refl r.st.s)
 refine ⟨_,c1,.inl ⟨rfl,_,aF.of c2⟩,?_⟩
 refine z σ G H fp _ r.st.s r.own r.g fun v1 G1 H1 f1 s1 o1 w1=>?_
 obtain ⟨l,vs,fq,d1,d2,d3,d4,d5,d6,d7⟩:=r.mut h s1
 rw [c1] at d1
 cases d1
 refine ⟨l0,vs,v1,rfl,rfl,d3,by rw [<- d4.length];exact hz,k σ G1 _ (d7 (us++[t]) (vs++[v1]) (fq++(f1++[])) (d4.append ⟨v1,[],f1,[],rfl,rfl,o1,rfl,rfl⟩) ?_ fun a ha=>?_)⟩
 ·rw [CS]
  refine ue.mpr ⟨d5,w1.d,fun a ha b hb e=>?_⟩
  subst e
  obtain ⟨u,hu⟩:=r.own.there a (d6 a ha)
  rw [w1.n a hb] at hu;cases hu
 ·rw [CS] at ha
  exact (ij.mp ha).imp id fun z=>⟨w1.n a z,w1.g a z⟩
theorem Uh (j:Nat){x:Str}{us:List Tr}{p1 p2 p3:Pos}(h : ρ[j]?=some (some (.ow us))){vs':List Tr}(he:cF F e ρ (.ow vs'))(hz:us.length+vs'.length<=sizeLine)(hN:∀ i,(F.cx i).N[j]?=some x:=by intro _;rfl)(hv:∀ i,kC (F.cx i).env.scope x:=by intro _;first | exact Or.inl rfl | exact Or.inr (Or.inl rfl) | exact Or.inr (Or.inr rfl))(hd:(x==("__debug__" : Str))=false:=by decide)(hc:(x==("__classdict__" : Str))=false:=by decide)(d8:∀ i,attributeBase (.Name x p1) "extend" (F.cx i).env (eval (.Name x p1) (F.cx i).env)=eval (.Name x p1) (F.cx i).env:=by intro _;rfl)(fS:∀ i,((backTo p3 (starEach [e] (F.cx i).env)).all (fun x=>!x.1)&&(backToKw p3 (keywordEach [] (F.cx i).env)).all (fun x=>x.1.isSome)&&decide (([e]:List Expr).length+([]:List Keyword).length+(if ([]:List Keyword).isEmpty then 0 else 1)<30))=true:=by intro _;rfl)(hline:(p2.endLine==p3.line)=true:=by rfl)(hs:∀ i,starEach [e] (F.cx i).env=[(false,eval e (F.cx i).env)]:=by intro _;rfl)(gV:∀ i,swapsWith (.Call (.Attribute (.Name x p1) "extend" p2) [e] [] p3) none pos.line (F.cx i).env=pure false:=by intro _;rfl) :
  Rn F (.Expr (.Call (.Attribute (.Name x p1) "extend" p2) [e] [] p3) pos) ρ (.nx (ρ.set j (some (.ow (us++vs'))))):=by
 obtain ⟨τ,y,z⟩:=he
 refine ⟨fk (eO F.K "list" nV (bD j) (aT τ ck)),fun i=>eY (F.hK i ▸ gK xy Pc Pd uw (p7 (hN i) (hv i) hd hc) (au (y i) aV (hs i)) (d8 i) (fS i) hline (hs i) rfl) (gV i),fun D σ G0 H0 G H r k=>?_⟩
 obtain ⟨fp,r⟩:=r
 obtain ⟨l0,Gz,GA,c1,c2,_⟩:=r.mut h (.refl r.st.s)
 refine ⟨_,c1,.inl ⟨rfl,_,aF.of c2⟩,?_⟩
 refine z σ G H fp _ r.st.s r.own r.g fun v1 G1 H1 f1 s1 o1 w1=>?_
 obtain ⟨l,vs,fq,d1,d2,d3,d4,d5,d6,d7⟩:=r.mut h s1
 rw [c1] at d1
 cases d1
 obtain ⟨b,zs,fz',rfl,hb,ob,rfl⟩:=o1
 have wd:=BB.mp w1.d
 refine ⟨l0,b,vs,zs,rfl,rfl,d3,hb,by rw [<- d4.length,<- ob.length];exact hz,k σ G1 _ (d7 (us++vs') (vs++zs) (fq++fz') (d4.append ob) ?_ fun a ha=>?_)⟩
 ·refine ue.mpr ⟨d5,wd.2,fun a ha b hb e=>?_⟩
  subst e
  obtain ⟨u,hu⟩:=r.own.there a (d6 a ha)
  rw [w1.n a (.tail _ hb)] at hu;cases hu
 ·exact (ij.mp ha).imp id fun z=>⟨w1.n a (.tail _ z),w1.g a (.tail _ z)⟩
end
end L2
namespace L2
open PySem PySem.Spec PyProof.Rows
def GB (K:Frag)(G:Hp)(J:It)(its:List Dv):Prop:=∀ k G1 H1,ai G G1->ai G1 H1 ->
 (∀ d,its[k]?=some d->J.go k H1/\∀ x H3,J.tN k H1 x H3->∃ G3,Step G1 H1 G3 H3/\Hv K G3 d x)/\(k=its.length->J.stop k H1)
def aY {α:Type}:List Nat->List α->List (Option α)->List (Option α)
 |j::js,v::vs,σ => aY js vs (σ.set j (some v))
 |_,_,σ => σ
def ix {α:Type}:List Nat->List (Option α)->List (Option α)
 |[],ρ => ρ
 |j::js,ρ => ix js (ρ.set j none)
theorem RS.ix {K:Frag}{G0 H0 G H:Hp}:∀ {ρ:En} {σ:St} (js:List Nat),RS K G0 H0 G H ρ σ->RS K G0 H0 G H (L2.ix js ρ) σ
 |_,_,[],r=>r
 |_,_,j::js,r=>RS.ix js (r.forget j)
def Fg (ρ ρ':En):Prop:=∃ fs,L2.ix fs ρ=ρ'
theorem Fg.rs {K:Frag}{G0 H0 G H:Hp}{ρ ρ':En}{σ:St}(f:Fg ρ ρ')(r:RS K G0 H0 G H ρ σ):RS K G0 H0 G H ρ' σ:=by
 obtain ⟨fs,rfl⟩:=f
 exact r.ix fs
theorem RS.aY {K:Frag}{G0 H0 G H:Hp}:∀ {js:List Nat} {ds:List Dv} {vs:List V} {ρ:En} {σ:St},(∀ j ∈ js,j < ρ.length)->aU K G ds vs->RS K G0 H0 G H ρ σ->RS K G0 H0 G H (L2.aY js (ds.map .fz) ρ) (L2.aY js vs σ)
 |[],_,_,_,_,_,_,r=>r
 |_::_,[],_,_,_,_,h,r=>by rw [show _=[] from h];exact r
 |j::js,d::ds,_,ρ,σ,hj,⟨x,q,h1,h2,h3⟩,⟨fp,r⟩=>by
  subst h1
  have r':RS K G0 H0 G H (ρ.set j (some (.fz d))) (σ.set j (some x)):=r.set (t:=.fz d) (v:=x) (fq:=[]) (hj j (.head _)) (.refl r.st.s) ⟨rfl,h2⟩ .nil
  exact RS.aY (js:=js) (ds:=ds) (fun i hi=>by rw [EN];exact hj i (.tail _ hi)) h3 r'
theorem bH.set {K:Frag}{G:Hp}{ρ:En}{σ:St}{j:Nat}{d:Dv}{v:V}(r:bH K G ρ σ)(hj:j < σ.length)(h:Hv K G d v):bH K G (ρ.set j (some (.fz d))) (σ.set j (some v)):=fun i e hi=>by
 by_cases q:i=j
 ·subst q
  rw [EU (by
   rcases abL i ρ.length with z | z
   ·exact z
   ·rw [Lo (by rw [EN];exact z)] at hi;cases hi)] at hi
  cases hi
  exact ⟨v,by rw [EU hj],h⟩
 ·rw [B0 (abc q)] at hi
  obtain ⟨u,h1,h2⟩:=r i e hi
  exact ⟨u,by rw [B0 (abc q)];exact h1,h2⟩
theorem wC {α:Type}:∀ (js:List Nat) (vs:List α) (σ:List (Option α)),(aY js vs σ).length=σ.length
 |[],_,_=>rfl
 |_::_,[],_=>rfl
 |j::js,v::vs,σ => by
  show (aY js vs (σ.set j (some v))).length=_
  rw [wC js vs,EN]
theorem bH.aY {K:Frag}{G:Hp}:∀ {js:List Nat} {ds:List Dv} {vs:List V} {ρ:En} {σ:St},(∀ j ∈ js,j < σ.length)->aU K G ds vs->bH K G ρ σ->bH K G (L2.aY js (ds.map .fz) ρ) (L2.aY js vs σ)
 |[],_,_,_,_,_,_,r=>r
 |_::_,[],_,_,_,_,h,r=>by rw [show _=[] from h];exact r
 |j::js,d::ds,_,ρ,σ,hj,⟨x,q,h1,h2,h3⟩,r=>by
  subst h1
  exact bH.aY (js:=js) (ds:=ds) (ρ:=ρ.set j (some (.fz d))) (fun i hi=>by rw [EN];exact hj i (.tail _ hi)) h3 (r.set (hj j (.head _)) h2)
section
variable {ι:Type}
def aX (F:aQ ι)(tg iter:Expr)(ρ:En)(its:List Dv):Prop:=∃ wi:TI,(∀ i,PI (F.cx i) tg iter wi)/\∀ σ G H (R:It->Hp->Prop),ai G H->bH F.K G ρ σ->(∀ J G' H',Step G H G' H'->GB F.K G' J its->R J H')->wi σ H R
def vD (F:aQ ι)(tg iter:Expr)(ρ:En)(its:List Dv):Prop:=∃ wi:TI,(∀ i,PI (F.cx i) tg iter wi)/\∀ σ G H fp (R:It->Hp->Prop),ai G H->aJ F.K G H ρ σ fp->(∀ a ∈ fp,G a=none)->(∀ J G' H',Step G H G' H'->GB F.K G' J its->R J H')->wi σ H R
def iH (F:aQ ι)(tg:Expr)(js:List Nat)(sp:Dv->Option (List Dv)):Prop:=∃ g:TG,(∀ i,PG (F.cx i) tg g)/\∀ d dd v σ G H Q,sp d=some dd->ai G H->Hv F.K G d v->(∀ vs,aU F.K G dd vs->Q (aY js vs σ) H)->g v σ H Q
def uS (F:aQ ι)(bh:List Stmt):TS:=fun D σ H=>∃ τ:TS,(∀ i,df (F.cx i) bh τ)/\τ D σ H
theorem X3 {F:aQ ι}{bh:List Stmt}(i : ι):df (F.cx i) bh (uS F bh):=fun pins s σ H D I ⟨τ,h,q⟩=>h i pins s σ H D I q
def uT (F:aQ ι)(e:Expr):TT:=fun σ H Q=>∃ τ:TT,(∀ i,PT (F.cx i) e τ)/\τ σ H Q
theorem mX {F:aQ ι}{e:Expr}(i : ι):PT (F.cx i) e (uT F e):=fun pins s σ H D I ⟨τ,h,q⟩=>h i pins s σ H D I q
def uE (F:aQ ι)(e:Expr):TE:=fun σ H Q=>∃ τ:TE,(∀ i,PE (F.cx i) e τ)/\τ σ H Q
theorem eI {F:aQ ι}{e:Expr}(i : ι):PE (F.cx i) e (uE F e):=fun pins s σ H D I ⟨τ,h,q⟩=>h i pins s σ H D I q
variable {F:aQ ι}{e a b c tg iter elt:Expr}{es:List Expr}{ρ ρ1:En}{t ta:Tr}{ts:List Tr}{pos:Pos}{o:Out}{body:List Stmt}{its:List Dv}{js:List Nat}{sp:Dv->Option (List Dv)}
theorem aX.s (h:aX F tg iter ρ its):vD F tg iter ρ its:=let ⟨w,x,y⟩:=h;⟨w,x,fun σ G H fp R s r _ k=>y σ G H R s r.lY k⟩
theorem aZ (j:Nat){x:Str}(hN:∀ i,(F.cx i).N.Nodup)(hi:∀ i,(F.cx i).N[j]?=some x:=by intro _;rfl)(hx:∀ i,Loc (F.cx i).env.scope x:=by intro _;first | exact Or.inl rfl | exact Or.inr rfl)(hf:∀ i,(F.cx i).fn x=true\/(F.cx i).env.scope.names.lookup x=some .local:=by intro _;first | exact .inl rfl | exact .inr rfl):iH F (.Name x pos) [j] (fun d=>some [d]) :=
 ⟨dZ j,fun i=>fO (hN i) (hi i) (hx i) (hf i),fun d dd v σ G H Q e s h k=>by
  cases e
  exact k [v] ⟨v,[],rfl,h,rfl⟩⟩
def EE (n:Nat):Dv->Option (List Dv)
 | .tup ds=>if ds.length=n then some ds else none
 |_=>none
theorem bN {xs:List Dv}(ha:Ev F e ρ ta)(ea:er ta=.lst xs):aX F tg e ρ xs:=by
 obtain ⟨τ,p,q⟩:=ha.use
 refine ⟨M5 F.K τ,fun i=>F.hK i ▸ VG (p i),fun σ G H R s r k=>q σ G H _ s r fun x G1 H1 s1 hx=>?_⟩
 rw [ea] at hx
 obtain ⟨l,vs,rfl,h1,h2⟩:=hx
 refine ⟨l,rfl,⟨vs,s1.s.seq h1⟩,k _ G1 H1 s1 fun j G2 H2 sg sh=>⟨fun d hd=>?_,fun hz=>⟨vs,(sg.trans sh).seq h1,by rw [<- h2.length,hz];exact ee _⟩⟩⟩
 obtain ⟨v,q1,q2⟩:=h2.get hd
 refine ⟨⟨vs,v,(sg.trans sh).seq h1,q1⟩,?_⟩
 rintro x H3 ⟨rfl,hx⟩
 have:=hx vs ((sg.trans sh).seq h1)
 rw [q1] at this
 cases this
 exact ⟨G2,.refl sh,q2.mono sg⟩
abbrev nh (lo:Int)(n:Nat):List Dv:=(List.range n).map fun k=>di (lo+(k:Nat))
theorem V0 {K:Frag}{G:Hp}(lo:Int)(n:Nat):GB K G (qQ lo n) (nh lo n):=fun k G1 H1 sg sh=>by
 refine ⟨fun d hd=>?_,fun hz=>by show n<=k;rw [hz];simp⟩
 rw [i4] at hd
 rcases abL k n with hk | hk
 ·rw [IS hk] at hd
  cases hd
  refine ⟨hk,?_⟩
  rintro x H3 ⟨rfl,rfl⟩
  exact ⟨G1,.refl sh,rfl,rfl⟩
 ·rw [Lo (by simpa using hk)] at hd;cases hd
theorem mD {n:Int}(hm:F.mg "range" = none)(ha:Ev F a ρ (ti n))(hb : -(2 ^ 62)<=n/\n<2 ^ 62){p:Pos}(hg:∀ i,Gl (F.cx i) "range" := by intro _;rfl)(hs:∀ i,starEach [a] (F.cx i).env=[(false,eval a (F.cx i).env)]:=by intro _;rfl):aX F tg (.Call (.Name "range" p) [a] [] pos) ρ (nh 0 n.toNat):=by
 obtain ⟨τ,p,q⟩:=ha.use
 refine ⟨xK (aT τ ck),fun i=>JO (hg i) ((F.hm i).symm ▸ hm) (au (p i) aV (hs i)) (hs i),fun σ G H R s r k=>q σ G H _ s r fun x G1 H1 s1 hx=>?_⟩
 exact ⟨n,by rw [aB hx],hb.1,hb.2,k _ G1 H1 s1 (V0 0 n.toNat)⟩
theorem vE {js:List Nat}{n:Nat}(h:js.all (fun j=>Nat.blt j n)=true):∀ j ∈ js,j<n:=fun j hj=>abq (Pf.mp h j hj)
theorem YJ {i : ι}(hx:(F.cx i).xe=cy):PassesOwn (model (F.cx i).prog (F.cx i).w) (F.cx i).A (F.cx i).env (F.cx i).xe:=by rw [hx];exact PassesOwn.never
theorem BR (hi:vD F tg iter ρ its)(hg:iH F tg js sp)(inv:Nat->En)(m:Nat)(hm:m<=its.length)(h0:inv 0=ρ)(hlen:∀ k,js.all (fun j=>Nat.blt j (inv k).length)=true)(step:∀ k d,k<m->its[k]?=some d->∃ dd jv,sp d=some dd/\cz F body (aY js (dd.map .fz) (inv k)) (.nx jv)/\Fg jv (inv (k+1)))(fin:(m=its.length/\o=.nx (inv m))\/∃ d dd t,its[m]?=some d/\sp d=some dd/\cz F body (aY js (dd.map .fz) (inv m)) (.rt t)/\o=.rt t)(hx:∀ i,(F.cx i).xe=cy:=by intro _;rfl)(hs:∀ i x,foldedSetIterable iter (F.cx i).env x=pure x:=by intro _ _;rfl):Rn F (.For tg iter body [] pos) ρ o:=by
 obtain ⟨wi,p,q⟩:=hi
 obtain ⟨g,pg,qg⟩:=hg
 subst h0
 refine ⟨vz wi g (uS F body),fun i=>D3 (YJ (hx i)) (F.calm i) (p i) (pg i) (X3 i) (hs i),fun D σ G0 H0 G H r k=>?_⟩
 obtain ⟨fp,r⟩:=r
 refine q σ G H fp _ r.st.s r.own r.g fun J G1 H1 s1 it=>?_
 have r1:dU F.K G0 H0 G1 H1 (inv 0) σ fp:=⟨r.st.trans s1,r.own.mono s1.g s1.h,r.own.off s1 r.g,r.n,r.d⟩
 have kb:=k.under r1.base
 refine ⟨fun k m' aA H'=>m'=its.length-k/\k<=m/\∃ G',RS F.K G1 (less H1 fp) G' H' (inv k) aA,⟨_,rfl,Cs _,G1,fp,r1.rebase⟩,?_⟩
 rintro n m' aA H' ⟨rfl,hn,G',r'⟩
 obtain ⟨gu,r'⟩:=r'
 obtain ⟨i1,i2⟩:=it n G' H' r'.st.g r'.st.s
 by_cases dR:n<m
 ·have hd:its[n]?=some its[n]:=ar (by omega)
  obtain ⟨j1,j2⟩:=i1 _ hd
  refine .inr ⟨j1,fun bB H2=>∃ G2,RS F.K G1 (less H1 fp) G2 H2 (inv (n+1)) bB,fun bB H2 z=>⟨its.length-(n+1),by omega,rfl,dR,z⟩,fun x H3 y=>?_⟩
  obtain ⟨G3,s3,h3⟩:=j2 x H3 y
  obtain ⟨dd,jv,e1,⟨τ,pb,qb⟩,e2⟩:=step n _ dR hd
  refine qg _ dd x aA G3 H3 _ e1 s3.s h3 fun vs iI=>⟨τ,pb,qb _ _ G1 (less H1 fp) G3 H3 (RS.aY (vE (hlen n)) iI ⟨gu,r'.st.trans s3,r'.own.mono s3.g s3.h,fun a ha=>?_,r'.n,r'.d⟩) fun σ4 G4 H4 r4=>⟨G4,e2.rs r4⟩⟩
  cases q:G3 a with
  |none=>rfl
  |some u =>
   obtain ⟨u',bz⟩:=r'.own.there a ha
   have:=s3.n a (r'.g a ha) (by rw [q];exact fun z=>nomatch z)
   rw [bz] at this;cases this
 ·have en:n=m:=by omega
  subst en
  rcases fin with ⟨e,rfl⟩ | ⟨d,dd,t,hd,e1,⟨τ,pb,qb⟩,rfl⟩
  ·refine .inl ⟨i2 e,kb aA G' H' ⟨gu,r'⟩⟩
  ·obtain ⟨j1,j2⟩:=i1 d hd
   refine .inr ⟨j1,fun _ _=>False,fun _ _ z=>z.elim,fun x H3 y=>?_⟩
   obtain ⟨G3,s3,h3⟩:=j2 x H3 y
   refine qg d dd x aA G3 H3 _ e1 s3.s h3 fun vs iI=>⟨τ,pb,qb _ _ G1 (less H1 fp) G3 H3 (RS.aY (vE (hlen n)) iI ⟨gu,r'.st.trans s3,r'.own.mono s3.g s3.h,fun a ha=>?_,r'.n,r'.d⟩) kb⟩
   cases q:G3 a with
   |none=>rfl
   |some u =>
    obtain ⟨u',bz⟩:=r'.own.there a ha
    have:=s3.n a (r'.g a ha) (by rw [q];exact fun z=>nomatch z)
    rw [bz] at this;cases this
theorem kl (hi:vD F tg iter ρ its)(hg:iH F tg js sp)(inv:Nat->En)(h0:inv 0=ρ)(hlen:∀ k,js.all (fun j=>Nat.blt j (inv k).length)=true)(step:∀ k d,its[k]?=some d->∃ dd jv,sp d=some dd/\cz F body (aY js (dd.map .fz) (inv k)) (.nx jv)/\Fg jv (inv (k+1)))(hx:∀ i,(F.cx i).xe=cy:=by intro _;rfl)(hs:∀ i x,foldedSetIterable iter (F.cx i).env x=pure x:=by intro _ _;rfl):Rn F (.For tg iter body [] pos) ρ (.nx (inv its.length)) :=
 BR hi hg inv its.length (ee _) h0 hlen (fun k d _ h=>step k d h) (.inl ⟨rfl,rfl⟩) hx hs
structure YK where
 C:Addr
 s:Shared
 H:Hp
 ex:List Addr
 pn:List (Addr×Obj)
def cg (F:aQ ι)(own:List Str)(fr:List Nat)(sc:Scope)(cl : ι->List (Str×Addr)):aQ (ι×YK) where
 cx i:=bE (F.cx i.1) own fr sc (cl i.1) i.2.C i.2.s i.2.H i.2.ex i.2.pn
 P:=F.P
 w:=F.w
 K:=F.K
 mg:=F.mg
 base:=F.base
 room:=F.room
 hP i:=F.hP i.1
 hw i:=F.hw i.1
 hK i:=F.hK i.1
 hm i:=F.hm i.1
 hb i:=F.hb i.1
 hr i:=F.hr i.1
 calm i:=F.calm i.1
def cp (own:List Str)(fr:List Nat)(ρ:En):En:=own.map (fun _=>none)++fr.map fun j=>(ρ[j]?).join
theorem Mx {K:Frag}{G:Hp}{own:List Str}{fr:List Nat}{ρ:En}{σ:St}(r:bH K G ρ σ):bH K G (cp own fr ρ) (su own fr σ):=fun i d h=>by
 unfold cp at h
 unfold su
 by_cases hi:i<own.length
 ·rw [IF (by simpa using hi),i4] at h
  cases q:own[i]? with
  |none=>rw [q] at h;cases h
  |some z=>rw [q] at h;cases h
 ·rw [BS (by simpa using hi),i4,aa] at h
  rw [BS (by simpa using hi),i4,aa]
  cases q:fr[i-own.length]? with
  |none=>rw [q] at h;cases h
  |some j =>
   rw [q] at h
   have h':(ρ[j]?).join=some (.fz d):=AE h
   have hj : ρ[j]?=some (some (.fz d)):=by
    cases q2 : ρ[j]? with
    |none=>rw [q2] at h';cases h'
    |some o=>rw [q2] at h';exact congrArg some h'
   obtain ⟨v,h1,h2⟩:=r j d hj
   refine ⟨v,?_,h2⟩
   show some ((σ[j]?).join)=_
   rw [h1]
   rfl
def El {κ:Type}(F:aQ κ)(ifs:List Expr)(ρ:En)(b:Bool):Prop:=∃ tt:TT,(∀ i (pins:List (Addr×Obj)) (s1:Shared) (ak:St) (H1:Hp) (Q:Bool->Hp->Prop),Inv (F.cx i) pins ak H1 s1->tt ak H1 Q ->
   wpAny (model (F.cx i).prog (F.cx i).w) (F.cx i).A (jL ifs (F.cx i).env) (TP (F.cx i) pins ak Q) cy s1)/\∀ σ G H Q,ai G H->bH F.K G ρ σ->(∀ G' H',Step G H G' H'->Q b H')->tt σ H Q
theorem sL:El F [] ρ true:=⟨VU,fun i pins s1 ak H1 Q I h=>X1 pins s1 ak H1 Q I h,fun σ G H Q s r k=>k G H (.refl s)⟩
theorem xC {p:Bool}(h:Et F c ρ p)(hx:∀ i,(F.cx i).xe=cy:=by intro _;rfl):El F [c] ρ p:=let ⟨τ,x,y⟩:=h;⟨τ,fun i pins s1 ak H1 Q I h=>Nc (x i) (hx i) pins s1 ak H1 Q I h,y⟩
def uL {κ:Type}(F:aQ κ)(ifs:List Expr):TT:=fun σ H Q=>∃ tt:TT,(∀ i (pins:List (Addr×Obj)) (s1:Shared) (ak:St) (H1:Hp) (Q:Bool->Hp->Prop),Inv (F.cx i) pins ak H1 s1->tt ak H1 Q ->
   wpAny (model (F.cx i).prog (F.cx i).w) (F.cx i).A (jL ifs (F.cx i).env) (TP (F.cx i) pins ak Q) cy s1)/\tt σ H Q
def yI (F:aQ ι)(own:List Str)(fr:List Nat)(sc:Scope)(cl : ι->List (Str×Addr))(elt tg iter:Expr)(ifs:List Expr)(τ:TE):Prop:=∃ wi g tt te,τ=qU wi g tt te own fr/\(∀ i,PI (F.cx i) tg iter wi)/\(∀ i,PG ((cg F own fr sc cl).cx i) tg g) /\
 (∀ i (pins:List (Addr×Obj)) (s1:Shared) (ak:St) (H1:Hp) (Q:Bool->Hp->Prop),Inv ((cg F own fr sc cl).cx i) pins ak H1 s1->tt ak H1 Q->wpAny (model ((cg F own fr sc cl).cx i).prog ((cg F own fr sc cl).cx i).w) ((cg F own fr sc cl).cx i).A (jL ifs ((cg F own fr sc cl).cx i).env) (TP ((cg F own fr sc cl).cx i) pins ak Q) cy s1) /\
 ∀ i,PE ((cg F own fr sc cl).cx i) elt te
def eR (F:aQ ι)(own:List Str)(fr:List Nat)(sc:Scope)(cl : ι->List (Str×Addr))(elt tg iter:Expr)(ifs:List Expr)(ρ:En)(t:Tr):Prop:=∃ τ,yI F own fr sc cl elt tg iter ifs τ/\∀ σ G H Q,ai G H->bH F.K G ρ σ->Kv F.K G H t Q->τ σ H Q
theorem yJ {ifs:List Expr}{sc:Scope}{own:List Str}{fr:List Nat}{cl : ι->List (Str×Addr)}(hi:aX F tg iter ρ its)(hg:iH (cg F own fr sc cl) tg js sp)(jw:∀ j ∈ js,j<own.length)(p:Nat->Bool)(f:Nat->Tr)(hz:its.length<sizeLine)(step:∀ k d,its[k]?=some d->∃ dd,sp d=some dd/\El (cg F own fr sc cl) ifs (aY js (dd.map .fz) (cp own fr ρ)) (p k)/\(p k=true->Ev (cg F own fr sc cl) elt (aY js (dd.map .fz) (cp own fr ρ)) (f k)))(iR:∀ dd:List Dv,ix js (aY js (dd.map .fz) (cp own fr ρ))=cp own fr ρ):eR F own fr sc cl elt tg iter ifs ρ (.ow (((List.range its.length).filter p).map f)):=by
 obtain ⟨wi,pi,qi⟩:=hi
 obtain ⟨g,pg,qg⟩:=hg
 refine ⟨_,⟨wi,g,uL (cg F own fr sc cl) ifs,uE (cg F own fr sc cl) elt,rfl,pi,pg,fun i pins s1 ak H1 Q I h=>by
   obtain ⟨tt,h1,h2⟩:=h
   exact h1 i pins s1 ak H1 Q I h2,fun i=>eI i⟩,fun σ G H Q s r k=>?_⟩
 refine qi σ G H _ s r fun J G1 H1 s1 it acc gO=>?_
 have k1:=k.step s1
 have My:∀ {G':Hp} {js':List Nat} {ρ':En} {aA:St},bH F.K G' ρ' aA->bH F.K G' (ix js' ρ') aA:=by
  intro G' js'
  induction js' with
  |nil=>intro ρ' aA z;exact z
  |cons j js' ih =>
   intro ρ' aA z
   refine ih (ρ':=ρ'.set j none) fun i d hd=>?_
   by_cases q:j=i
   ·subst q
    rw [aca] at hd
    simp at hd
   ·rw [B0 q] at hd
    exact z i d hd
 refine ⟨fun i m ys ak H2=>m=its.length-i/\i<=its.length/\ak.length=own.length+fr.length/\H2 acc=some (.lst ys)/\∃ G2 fq,Step G1 H1 G2 H2/\aM F.K G2 H2 (((List.range i).filter p).map f) ys fq/\Nw H1 G2 (acc::fq)/\bH F.K G2 (cp own fr ρ) ak,
  ⟨_,rfl,Cs _,by simp [su],bT,G1,[],.lO s1.s gO,⟨rfl,rfl⟩,⟨fun a ha=>by rw [mT.mp ha];exact gO,fun a ha=>by rw [mT.mp ha];exact s1.s.free gO,by simp⟩,(Mx r).mono s1.g⟩,?_⟩
 rintro i m ys ak H2 ⟨rfl,hi,tV,jx,G2,fq,s2,o2,w2,r2⟩
 have hlen:ys.length<sizeLine:=by
  rw [<- o2.length,aa]
  have:=List.length_filter_le p (List.range i)
  rw [BY] at this
  omega
 refine ⟨jx,hlen,?_⟩
 obtain ⟨i1,i2⟩:=it i G2 H2 s2.g s2.s
 by_cases dR:i<its.length
 ·have hd:its[i]?=some its[i]:=ar dR
  obtain ⟨j1,j2⟩:=i1 _ hd
  obtain ⟨dd,e1,el,ev⟩:=step i _ hd
  refine .inr ⟨j1,fun zs bB H3=>bB.length=own.length+fr.length/\H3 acc=some (.lst zs)/\∃ G3 fq,Step G1 H1 G3 H3/\aM F.K G3 H3 (((List.range (i+1)).filter p).map f) zs fq/\Nw H1 G3 (acc::fq)/\bH F.K G3 (cp own fr ρ) bB,
   fun zs bB H3 z=>⟨its.length-(i+1),by omega,rfl,dR,z⟩,fun x H3 y=>?_⟩
  obtain ⟨G3,s3,h3⟩:=j2 x H3 y
  refine qg _ dd x ak G3 H3 _ e1 s3.s h3 fun vs iI=>?_
  have tW:∀ j ∈ js,j<ak.length:=fun j hj=>by have:=jw j hj;omega
  have rr:bH F.K G3 (aY js (dd.map .fz) (cp own fr ρ)) (aY js vs ak):=bH.aY tW iI (r2.mono s3.g)
  have xR:∀ {Ga Ha Gb Hb:Hp} {fs:List Addr},Step Ga Ha Gb Hb->(∀ a ∈ fs,Ga a=none)->(∀ a ∈ fs,∃ o,Ha a=some o)->∀ a ∈ fs,Gb a=none:=fun {Ga Ha Gb Hb fs} st h1 h2 a ha=>by
   cases q:Gb a with
   |none=>rfl
   |some u =>
    obtain ⟨u',bz⟩:=h2 a ha
    have:=st.n a (h1 a ha) (by rw [q];exact fun z=>nomatch z)
    rw [bz] at this;cases this
  have GC:∀ a ∈ acc::fq,∃ o,H2 a=some o:=fun a ha=>(gr.mp ha).elim (fun z=>⟨_,z ▸ jx⟩) (o2.there a)
  have er:(List.range (i+1)).filter p=(List.range i).filter p++if p i=true then [i] else []:=by
   rw [List.range_succ,List.filter_append]
   congr 1
   simp only [abE,List.filter_nil]
  obtain ⟨tt,pt,qt⟩:=el
  refine ⟨tt,pt,qt _ G3 H3 _ s3.s rr fun G5 H5 s5=>?_⟩
  have o8:=s3.trans s5
  cases hp:p i with
  |false =>
   refine nc ⟨by rw [wC];exact tV,o8.h _ _ jx,G5,fq,s2.trans o8,?_,⟨w2.n,xR o8 w2.g GC,w2.d⟩,?_⟩
   ·rw [er,hp,AM (by decide),CS]
    exact o2.mono o8.g o8.h
   ·have:=My (js':=js) (rr.mono s5.g)
    rwa [iR dd] at this
  |true =>
   obtain ⟨te,pe,qe⟩:=ev hp
   refine jX ⟨te,pe,qe _ G5 H5 _ s5.s (rr.mono s5.g) fun v G6 H6 f6 s6 o6 w6=>?_⟩
   have jy:=o8.trans s6
   have GD:=jy.h _ _ jx
   have GF:∀ a ∈ f6,a ∉ acc::fq:=fun a ha hb=>by
    obtain ⟨u,hu⟩:=GC a hb
    have:=o8.h _ _ hu
    rw [w6.n a ha] at this;cases this
   have GH:=BB.mp w2.d
   have g6:=xR jy w2.g GC
   refine ⟨GD,by rw [wC];exact tV,bT,G6,fq++(f6++[]),⟨(s2.trans jy).g,fun b u hb=>?_,fun b u hb=>?_,(s2.trans jy).n⟩,?_,⟨fun a ha=>?_,fun a ha=>?_,?_⟩,?_⟩
   ·rw [ay fun z=>by subst z;rw [gO] at hb;cases hb]
    exact (s2.trans jy).h b u hb
   ·rw [ay fun z=>by subst z;rw [g6 _ (.head _)] at hb;cases hb]
    exact s6.s b u hb
   ·rw [er,hp,Cn rfl,Cf]
    refine aM.append ((o2.mono jy.g jy.h).frame GH.1) ⟨v,[],f6,[],rfl,rfl,o6.frame fun z=>GF _ z (.head _),rfl,rfl⟩
   ·rw [CS] at ha
    rcases gr.mp ha with z | z
    ·exact w2.n a (z ▸ .head _)
    ·rcases ij.mp z with z | z
     ·exact w2.n a (.tail _ z)
     ·exact (s2.trans o8).h.free (w6.n a z)
   ·rw [CS] at ha
    rcases gr.mp ha with z | z
    ·exact g6 a (z ▸ .head _)
    ·rcases ij.mp z with z | z
     ·exact g6 a (.tail _ z)
     ·exact w6.g a z
   ·rw [CS]
    refine BB.mpr ⟨fun z=>?_,ue.mpr ⟨GH.2,w6.d,fun a ha b hb z=>?_⟩⟩
    ·rcases ij.mp z with z | z
     ·exact GH.1 z
     ·exact GF _ z (.head _)
    ·subst z;exact GF a hb (.tail _ ha)
   ·have:=My (js':=js) (rr.mono (s5.trans s6).g)
    rwa [iR dd] at this
 ·have e:i=its.length:=by omega
  subst e
  refine .inl ⟨i2 rfl,k1 (.ref acc) G2 H2 (acc::fq) s2 ⟨acc,ys,fq,rfl,jx,o2,rfl⟩ w2⟩
theorem X4 {ifs:List Expr}{sc:Scope}{own:List Str}{fr:List Nat}{cl : ι->List (Str×Addr)}(L:∀ i,gy (F.cx i) sc (cl i) fr)(hi:aX F tg iter ρ its)(hg:iH (cg F own fr sc cl) tg js sp)(jw:∀ j ∈ js,j<own.length)(p:Nat->Bool)(f:Nat->Tr)(hz:its.length<sizeLine)(step:∀ k d,its[k]?=some d->∃ dd,sp d=some dd/\El (cg F own fr sc cl) ifs (aY js (dd.map .fz) (cp own fr ρ)) (p k)/\(p k=true->Ev (cg F own fr sc cl) elt (aY js (dd.map .fz) (cp own fr ρ)) (f k)))(iR:∀ dd:List Dv,ix js (aY js (dd.map .fz) (cp own fr ρ))=cp own fr ρ)(hs:∀ i x,foldedSetIterable iter (F.cx i).env x=pure x:=by intro _ _;rfl) :
  Ev F (.ListComp elt [⟨tg,iter,ifs,0⟩] sc pos) ρ (.ow (((List.range its.length).filter p).map f)):=by
 obtain ⟨τ,⟨wi,g,tt,te,rfl,h1,h2,h3,h4⟩,h5⟩:=yJ (ifs:=ifs) hi hg jw p f hz step iR
 exact ⟨_,fun i=>X0 (cl:=cl i) (L i) (F.calm i) (h1 i) (fun C s H ex pn=>h2 (i,⟨C,s,H,ex,pn⟩)) (fun C s H ex pn=>h3 (i,⟨C,s,H,ex,pn⟩)) (fun C s H ex pn=>h4 (i,⟨C,s,H,ex,pn⟩)) (hs i),h5⟩
end
structure nH (k:Nat) (qual:Str) (sc:Scope) (f:Addr) where
 az:Value
 A:Around
 outer:List Env
 s:Shared
 H:Hp
 E:XK
 hr:dk k (A.deeper (envOfC qual sc s.heap.objs.size f az))
def tD (P:Program)(w:World)(K:Frag)(mg:Str->Option Value)(base:Heap)(N:List Str)(qual:Str)(sc:Scope)(f:Addr)(k:Nat):aQ (nH k qual sc f) where
 cx i:=(bj aG P w K mg base N qual sc f i.az i.A i.outer i.s i.H i.E).du
 P:=P
 w:=w
 K:=K
 mg:=mg
 base:=base
 room:=k
 hP _:=rfl
 hw _:=rfl
 hK _:=rfl
 hm _:=rfl
 hb _:=rfl
 hr i:=i.hr
 calm _:=rfl
def yK (N:List Str)(dd:List Dv):En:=dd.map (fun d=>some (.fz d))++List.replicate (N.length-dd.length) none
theorem Dd {K:Frag}{G H:Hp}:∀ n:Nat,aJ K G H (List.replicate n none) (List.replicate n none) []
 |0=>⟨rfl,rfl⟩
 |n+1=>⟨none,List.replicate n none,rfl,Dd n⟩
theorem Cr {K:Frag}{G H:Hp}{n:Nat}:∀ {dd:List Dv} {vs:List V},aU K G dd vs->aJ K G H (dd.map (fun d=>some (.fz d))++List.replicate n none) (vs.map some++List.replicate n none) []
 |[],_,h=>by rw [show _=[] from h];exact Dd n
 |_::_,_,⟨x,r,h1,h2,h3⟩=>by subst h1;exact ⟨x,_,[],[],rfl,rfl,⟨rfl,h2⟩,Cr h3⟩
theorem fQ {P:Program}{w:World}{K:Frag}{mg:Str->Option Value}{base:Heap}{x qual:Str}{st:Stmt}{dV:Value}{f:Addr}{fd:FuncData}{N ps:List Str}{k:Nat}{R:List Dv->Tr->Prop}(Fd:iC K x qual st dV f fd)(S:cH N ps (aD st))(hl:∀ dd t,R dd t->dd.length=ps.length)(hb:∀ dd t,R dd t->∃ o,(o=.rt t\/(t=tn/\∃ ρ',o=.nx ρ'))/\cz (tD P w K mg base N qual (aD st) f k) (bR st) (yK N dd) o):bc P w K mg base aG (k+1) f fd ps (spT K R):=by
 refine Fd.ok S (fun vs H Q E ⟨G,dd,t,s,h1,h2,h3⟩=>by rw [<- h1.length];exact hl dd t h2) fun az A outer s H vs Q E hr h=>?_
 obtain ⟨G,dd,t,s',h1,h2,h3⟩:=h
 obtain ⟨o,ho,τ,x,y⟩:=hb dd t h2
 refine ⟨τ,x ⟨az,A,outer,s,H,E,hr⟩,y _ (start N vs) G H G H ⟨[],.refl s',?_,fun _ z=>(nomatch z),fun _ z=>(nomatch z),.nil⟩ ?_⟩
 ·unfold start yK
  rw [<- h1.length]
  exact Cr h1
 ·rcases ho with rfl | ⟨rfl,ρ',rfl⟩
  ·exact fun v G1 H1 fq s1 o1 w1=>h3 v G1 H1 fq s1 o1 w1
  ·exact fun σ G1 H1 ⟨fp,r⟩=>h3 .aN G1 H1 [] r.st ⟨rfl,rfl,rfl⟩ .nil
def Qb (K:Frag)(l1 l2:Addr)(xs ys:List V):It :=
 ⟨fun i H=>aF K H l1 xs/\aF K H l2 ys/\i<min xs.length ys.length,fun i H x H'=>∃ T vx vy,H T=none/\xs[i]?=some vx/\ys[i]?=some vy/\x=.ref T/\H'=upd H T (.tup [vx,vy]),fun i H=>aF K H l1 xs/\aF K H l2 ys/\i=min xs.length ys.length⟩
def Qc (K:Frag)(l:Addr)(xs:List V):It :=
 ⟨fun i H=>aF K H l xs/\i<xs.length,fun i H x H'=>∃ T v,H T=none/\xs[i]?=some v/\x=.ref T/\H'=upd H T (.tup [.int (i:Nat),v]),fun i H=>aF K H l xs/\i=xs.length⟩
section
variable {X:Cx}{pins:List (Addr×Obj)}{σ:St}{H:Hp}{s:Shared}
theorem Inv.xh {t':Nat}{fs:List Addr}{h':Heap}(I:Inv X pins σ H s)(k:∀ b o,b ∉ fs->s.heap.get? b=some o->h'.get? b=some o)(hf:∀ b ∈ fs,eW X pins H b):Inv X pins σ H { s with heap:=h',toks:=t' }:=by
 have oS:∀ b u,H b=some u->b ∉ fs:=fun b u e z=>by rw [(hf b z).1] at e;cases e
 refine I.step (g':=s.gens) (d':=s.drawn) (ch:=fs) (fun b hb=>?_) (fun b o _ _ hc e _=>k b o hc e) (fun b o _ _ hc e _=>⟨o.slots,k b o hc e⟩) (fun _ _ _ _ n=>n)
  (fun b o hc e=>⟨o,k b o hc e⟩) (fun _ _ e=>e) (fun _ _ _ e=>e) (fun b ps e=>⟨#[],by rw [e];simp⟩) (fun m hm=>?_) (fun b u e=>?_) I.bare
 ·obtain ⟨f0,f1,f2,f3,f4,f5⟩:=hf b hb
  exact ⟨f3,f1,f4,f5⟩
 ·obtain ⟨o,es,ep,ho,r⟩:=hm
  exact ⟨o,es,ep,k _ o (fun z=>(hf _ z).2.1 rfl) ho,r⟩
 ·refine (I.aq b u e).hJ (fun c v hc q=>k c v ?_ q) (fun _ q=>q) fun _ _ q=>q
  rcases hc with z | z
  ·rw [z];exact oS b u e
  ·exact oS c _ z
theorem Inv.LC {t':Nat}{fs:List Addr}{h':Heap}{T:Addr}{vs:List V}(I:Inv X pins σ H s)(k:∀ b o,b ∉ fs->s.heap.get? b=some o->h'.get? b=some o)(hf:∀ b ∈ fs,eW X pins H b)(hT:s.heap.objs.size<=T)(new:dD X.prog X.w (upd H T (.tup vs)) h' T (.tup vs)):Inv X pins σ (upd H T (.tup vs)) { s with heap:=h',toks:=t' }:=by
 have hn:H T=none:=I.aq.fresh hT
 have oS:∀ b u,H b=some u->b ∉ fs:=fun b u e z=>by rw [(hf b z).1] at e;cases e
 have ne:∀ b o,s.heap.get? b=some o->b ≠ T:=fun b o e z=>by subst z;exact absurd (rb (lp e) hT) (LM _)
 refine I.step (g':=s.gens) (d':=s.drawn) (ch:=fs) (fun b hb=>?_) (fun b o _ _ hc e _=>k b o hc e) (fun b o _ _ hc e _=>⟨o.slots,k b o hc e⟩) (fun b o _ e n=>by rw [ay (ne b o e)];exact n)
  (fun b o hc e=>⟨o,k b o hc e⟩) (fun _ _ e=>by rw [ay (jJ e hn)];exact e) (fun _ _ _ e=>by rw [ay (jJ e hn)];exact e) (fun b ps e=>⟨#[],by rw [ay (jJ e hn),e];simp⟩) (fun m hm=>?_) (fun b u e=>?_) I.bare
 ·obtain ⟨f0,f1,f2,f3,f4,f5⟩:=hf b hb
  exact ⟨f3,f1,f4,f5⟩
 ·obtain ⟨o,es,ep,ho,r⟩:=hm
  exact ⟨o,es,ep,k _ o (fun z=>(hf _ z).2.1 rfl) ho,r⟩
 ·by_cases hb:b=T
  ·subst hb;rw [bT] at e;cases e;exact new
  ·rw [ay hb] at e
   refine (I.aq b u e).hJ (fun c v hc q=>k c v ?_ q) (fun c q=>by rw [ay (jJ q hn)];exact q) fun c xs q=>by rw [ay (jJ q hn)];exact q
   rcases hc with z | z
   ·rw [z];exact oS b u e
   ·exact oS c _ z
end
theorem U2 {P:Program}{w:World}{K:Frag}{elts:List Expr}{kk:Nat}{pos:Pos}{z TI TO i1 i2 l1 l2:Addr}{xs ys:List V}(D:ZipApart z TI TO i1 i2 l1 l2) :
  Turn P w K (.Tuple elts kk pos) (Qb K l1 l2 xs ys) [z,TI,TO,i1,i2] z (fun i h=>IsZip h z TI TO .none/\IsPair h TI (.ref i1) (.ref i2)/\(∃ a b,IsPair h TO a b)/\h.IsListIter i1 l1 i/\h.IsListIter i2 l2 i) where
 mem:=by simp
 obj:=by
  rintro i h ⟨h1,h2,⟨a,c,h3⟩,⟨o1,h4,_,h5⟩,⟨o2,h6,_,h7⟩⟩ b hb
  simp only [gr,LG,abZ] at hb
  rcases hb with rfl | rfl | rfl | rfl | rfl
  ·exact ⟨_,h1,fun v z=>by cases z⟩
  ·exact ⟨_,h2,fun v z=>by cases z⟩
  ·exact ⟨_,h3,fun v z=>by cases z⟩
  ·exact ⟨_,h4,fun v z=>by rw [h5] at z;cases z⟩
  ·exact ⟨_,h6,fun v z=>by rw [h7] at z;cases z⟩
 keep:=by
  rintro i h h' ⟨h1,h2,⟨a,c,h3⟩,h4,h5⟩ k
  exact ⟨k _ (by simp) _ h1,k _ (by simp) _ h2,⟨a,c,k _ (by simp) _ h3⟩,h4.at fun o e=>k _ (by simp) o e,h5.at fun o e=>k _ (by simp) o e⟩
 item:=by
  intro X hP hw hK hc i pins s σ H E I hf st hg
  subst hP hw hK
  obtain ⟨kL,rq,dR⟩:=hg
  obtain ⟨jf,kM,p1,o9⟩:=I.list kL
  obtain ⟨iB,vW,p2,yL⟩:=I.list rq
  have e1:=kM.length
  have e2:=vW.length
  have W:=WalksT.zip2 (prog:=X.prog) (w:=X.w) (A:=X.A) (I.ok.hd hc) z TI TO i1 i2 l1 l2 D jf.toArray iB.toArray
  refine W.item i s _ _ (by simp;omega) ⟨st.1,st.2.1,st.2.2.1,st.2.2.2.1,st.2.2.2.2,p1.isList,p2.isList⟩ fun T vals h' tk GI rz Fj vF hk=>⟨.ref T,rfl,W.go elts kk pos i T _ _ _ vF fun me oJ vG=>?_⟩
  obtain ⟨x,y,hx,hy,rfl⟩:=GI
  have nD:xs[i]?=some (xs[i]'(by omega)):=ar _
  have yM:ys[i]?=some (ys[i]'(by omega)):=ar _
  obtain ⟨u,hu,ru⟩:=kM.get nD
  obtain ⟨u',bz,ru'⟩:=vW.get yM
  have ex:x=u:=by
   have:jf[i]?=some x:=by simpa using hx
   rw [hu] at this;exact (AE this).symm
  have ey:y=u':=by
   have:iB[i]?=some y:=by simpa using hy
   rw [bz] at this;exact (AE this).symm
  subst ex ey
  have sub:∀ b ∈ [z,TO,i1,i2],b ∈ [z,TI,TO,i1,i2]:=fun b hb=>by
   simp only [gr,LG,abZ] at hb ⊢
   rcases hb with rfl | rfl | rfl | rfl<;>simp
  have GJ:IsTup me T [x,y].toArray:=Fj.at fun o e=>vG T o (W.apart i T _ vF) e
  refine ⟨.ref T,upd H T (.tup [xs[i]'(by omega),ys[i]'(by omega)]),I.LC (fs:=[z,TO,i1,i2]) (fun b o hb e=>vG b o hb (hk b o hb e)) (fun b hb=>hf b (sub b hb)) rz ⟨by show 2<=sizeLine;decide,[x,y],.cons ru (.cons ru' .nil),GJ⟩,rfl,
   ⟨T,_,_,I.aq.fresh rz,nD,yM,rfl,rfl⟩,⟨oJ.1,oJ.2.1,oJ.2.2.1,oJ.2.2.2.1,oJ.2.2.2.2.1⟩,fun b hb=>?_⟩
  obtain ⟨o,eo,_⟩:∃ o,s.heap.get? b=some o/\True:=by
   obtain ⟨g1,g2,⟨a,c,g3⟩,⟨o1,g4,_⟩,⟨o2,g6,_⟩⟩:=st
   simp only [gr,LG,abZ] at hb
   rcases hb with rfl | rfl | rfl | rfl | rfl
   ·exact ⟨_,g1,trivial⟩
   ·exact ⟨_,g2,trivial⟩
   ·exact ⟨_,g3,trivial⟩
   ·exact ⟨_,g4,trivial⟩
   ·exact ⟨_,g6,trivial⟩
  rw [ay (xp (rb (lp eo) rz))]
  exact (hf b hb).1
 done:=by
  intro X hP hw hK hc i pins s σ H E I hf st hg
  subst hP hw hK
  obtain ⟨kL,rq,rfl⟩:=hg
  obtain ⟨jf,kM,p1,o9⟩:=I.list kL
  obtain ⟨iB,vW,p2,yL⟩:=I.list rq
  have e1:=kM.length
  have e2:=vW.length
  have W:=WalksT.zip2 (prog:=X.prog) (w:=X.w) (A:=X.A) (I.ok.hd hc) z TI TO i1 i2 l1 l2 D jf.toArray iB.toArray
  have en:min jf.toArray.size iB.toArray.size=min xs.length ys.length:=by simp only [i8];omega
  refine W.done s _ _ (by rw [en];exact ⟨st.1,st.2.1,st.2.2.1,st.2.2.2.1,st.2.2.2.2,p1.isList,p2.isList⟩) fun h' tk hk=>⟨rfl,I.xh (fs:=[z,TO,i1,i2]) hk fun b hb=>hf b ?_⟩
  simp only [gr,LG,abZ] at hb ⊢
  rcases hb with rfl | rfl | rfl | rfl<;>simp
 self:=fun A i s Q E st h=>wpAny_pyIter_zip st.1 h
theorem Ui {P:Program}{w:World}{K:Frag}{elts:List Expr}{kk:Nat}{pos:Pos}{e it l:Addr}{xs:List V}(Qd:e ≠ it)(hle:l ≠ e)(GK:l ≠ it) :
  Turn P w K (.Tuple elts kk pos) (Qc K l xs) [e,it] e (fun i h=>(∃ old,IsEnum h e it i old)/\h.IsListIter it l i) where
 mem:=by simp
 obj:=by
  rintro i h ⟨⟨old,h1⟩,⟨o1,h4,_,h5⟩⟩ b hb
  simp only [gr,LG,abZ] at hb
  rcases hb with rfl | rfl
  ·exact ⟨_,h1,fun v z=>by cases z⟩
  ·exact ⟨_,h4,fun v z=>by rw [h5] at z;cases z⟩
 keep:=by
  rintro i h h' ⟨⟨old,h1⟩,h4⟩ k
  exact ⟨⟨old,k _ (by simp) _ h1⟩,h4.at fun o e=>k _ (by simp) o e⟩
 item:=by
  intro X hP hw hK hc i pins s σ H E I hf st hg
  subst hP hw hK
  obtain ⟨kL,dR⟩:=hg
  obtain ⟨jf,kM,p1,o9⟩:=I.list kL
  have e1:=kM.length
  have W:=WalksT.enumerate (prog:=X.prog) (w:=X.w) (A:=X.A) (I.ok.hd hc) e it l Qd hle GK jf.toArray
  refine W.item i s _ _ (by simp;omega) ⟨st.1,st.2,p1.isList⟩ fun T vals h' tk GI rz Fj vF hk=>⟨.ref T,rfl,W.go elts kk pos i T _ _ _ vF fun me oJ vG=>?_⟩
  obtain ⟨t,x,hx,rfl⟩:=GI
  have nD:xs[i]?=some (xs[i]'(by omega)):=ar _
  obtain ⟨u,hu,ru⟩:=kM.get nD
  have ex:x=u:=by
   have:jf[i]?=some x:=by simpa using hx
   rw [hu] at this;exact (AE this).symm
  subst ex
  have GJ:IsTup me T [Value.int (i:Nat) t,x].toArray:=Fj.at fun o e=>vG T o (W.apart i T _ vF) e
  refine ⟨.ref T,upd H T (.tup [.int (i:Nat),xs[i]'(by omega)]),I.LC (fs:=[e,it]) (fun b o hb e=>vG b o hb (hk b o hb e)) hf rz ⟨by show 2<=sizeLine;decide,[.int (i:Nat) t,x],.cons ⟨t,rfl⟩ (.cons ru .nil),GJ⟩,rfl,
   ⟨T,_,I.aq.fresh rz,nD,rfl,rfl⟩,⟨oJ.1,oJ.2.1⟩,fun b hb=>?_⟩
  obtain ⟨o,eo,_⟩:∃ o,s.heap.get? b=some o/\True:=by
   obtain ⟨⟨old,g1⟩,⟨o1,g4,_⟩⟩:=st
   simp only [gr,LG,abZ] at hb
   rcases hb with rfl | rfl
   ·exact ⟨_,g1,trivial⟩
   ·exact ⟨_,g4,trivial⟩
  rw [ay (xp (rb (lp eo) rz))]
  exact (hf b hb).1
 done:=by
  intro X hP hw hK hc i pins s σ H E I hf st hg
  subst hP hw hK
  obtain ⟨kL,rfl⟩:=hg
  obtain ⟨jf,kM,p1,o9⟩:=I.list kL
  have e1:=kM.length
  have W:=WalksT.enumerate (prog:=X.prog) (w:=X.w) (A:=X.A) (I.ok.hd hc) e it l Qd hle GK jf.toArray
  have en:jf.toArray.size=xs.length:=by simp only [i8];omega
  exact W.done s _ _ (by rw [en];exact ⟨st.1,st.2,p1.isList⟩) fun h' tk hk=>⟨rfl,I.xh (fs:=[e,it]) hk hf⟩
 self:=fun A i s Q E st h=>by
  obtain ⟨⟨old,h1⟩,_⟩:=st
  exact wpAny_pyIter_enum h1 h
def Oh (K:Frag)(ta:TA):TI:=fun σ H R=>ta σ H fun vs H1=>∃ l1 l2 xs ys,vs=[.ref l1,.ref l2]/\aF K H1 l1 xs/\aF K H1 l2 ys/\R (Qb K l1 l2 xs ys) H1
def Oi (K:Frag)(ta:TA):TI:=fun σ H R=>ta σ H fun vs H1=>∃ l xs,vs=[.ref l]/\aF K H1 l xs/\R (Qc K l xs) H1
section
variable {X:Cx}{elts:List Expr}{kk:Nat}{tp:Pos}
theorem W6 {a b:Expr}{ta:TA}{p pos:Pos}(hg:Gl X "zip")(hm:X.mg "zip" = none)(ha:PA X [a,b] ta)(hs:starEach [a,b] X.env=[(false,eval a X.env),(false,eval b X.env)]:=by rfl)(fG:starEach [b] X.env=[(false,eval b X.env)]:=by rfl) :
  PI X (.Tuple elts kk tp) (.Call (.Name "zip" p) [a,b] [] pos) (Oh X.K ta):=by
 intro pins s σ H R I h
 refine Call_ (n8 I hg hm WZ (Me (aj (ha pos pins s σ H _ I h) fun us s1 ⟨vs,H1,I1,r1,q1⟩=>?_) (by rw [hs,fG]) (by rw [fG];rfl)))
 obtain ⟨l1,l2,xs,ys,rfl,kL,rq,q⟩:=q1
 obtain ⟨u1,u2,rfl,c1,c2⟩:=r1.two
 cases c1
 cases c2
 obtain ⟨jf,kM,p1,o9⟩:=I1.list kL
 obtain ⟨iB,vW,p2,yL⟩:=I1.list rq
 have yN:l1<s1.heap.objs.size:=by obtain ⟨o,n,e,_⟩:=p1;exact lp e
 have ny:l2<s1.heap.objs.size:=by obtain ⟨o,n,e,_⟩:=p2;exact lp e
 refine call_zip_2 p1.isList p2.isList fun h' hz hTI hTO hi1 hi2 lU hk=>wpAny_pyIter_zip hz ?_
 have I2:Inv X pins σ H1 { s1 with heap:=h' }:=I1.kept (t':=s1.toks) hk
 refine ⟨s1.heap.objs.size+4,[s1.heap.objs.size+4,s1.heap.objs.size+2,s1.heap.objs.size+3,s1.heap.objs.size,s1.heap.objs.size+1],_,_,H1,rfl,I2,U2 (PySem.W.ktu_apart _ _ _ yN ny),⟨hz,hTI,⟨_,_,hTO⟩,hi1,hi2⟩,fun b hb=>?_,q⟩
 have fH:s1.heap.objs.size<=b:=by
  simp only [gr,LG,abZ] at hb
  rcases hb with rfl | rfl | rfl | rfl | rfl<;>omega
 obtain ⟨f0,f1,f2,f3,f4,f5⟩:=I1.oE (H':=H1) fH (I1.aq.fresh fH)
 exact ⟨f0,f1,f2,f3,f4,f5⟩
theorem V1 {a:Expr}{ta:TA}{p pos:Pos}(hg:Gl X "enumerate")(hm:X.mg "enumerate" = none)(ha:PA X [a] ta)(hs:starEach [a] X.env=[(false,eval a X.env)]:=by rfl) :
  PI X (.Tuple elts kk tp) (.Call (.Name "enumerate" p) [a] [] pos) (Oi X.K ta):=by
 intro pins s σ H R I h
 refine Call_ (n8 I hg hm SK (Me (aj (ha pos pins s σ H _ I h) fun us s1 ⟨vs,H1,I1,r1,q1⟩=>?_) hs rfl))
 obtain ⟨l,xs,rfl,kL,q⟩:=q1
 obtain ⟨u1,rfl,c1⟩:=r1.one
 cases c1
 obtain ⟨jf,kM,p1,o9⟩:=I1.list kL
 have yN:l<s1.heap.objs.size:=by obtain ⟨o,n,e,_⟩:=p1;exact lp e
 refine call_enumerate_list p1.isList fun h' hE hI lU hk=>wpAny_pyIter_enum hE ?_
 have I2:Inv X pins σ H1 { s1 with heap:=h' }:=I1.kept (t':=s1.toks) hk
 refine ⟨s1.heap.objs.size+1,[s1.heap.objs.size+1,s1.heap.objs.size],_,_,H1,rfl,I2,Ui (Nat.succ_ne_self _) (PySem.W.ktu_ne 1 yN) (xp yN),⟨⟨_,hE⟩,hI⟩,fun b hb=>?_,q⟩
 have fH:s1.heap.objs.size<=b:=by
  simp only [gr,LG,abZ] at hb
  rcases hb with rfl | rfl<;>omega
 obtain ⟨f0,f1,f2,f3,f4,f5⟩:=I1.oE (H':=H1) fH (I1.aq.fresh fH)
 exact ⟨f0,f1,f2,f3,f4,f5⟩
end
section
variable {ι:Type}{F:aQ ι}{a b tg:Expr}{ρ:En}{ta cM:Tr}{elts:List Expr}{kk:Nat}{tp pos:Pos}
def vH (xs ys:List Dv):List Dv:=List.zipWith (fun x y=>.tup [x,y]) xs ys
def oK (xs:List Dv):List Dv:=(List.range xs.length).zipWith (fun k x=>.tup [di (k:Nat),x]) xs
theorem LD {xs ys:List Dv}(hm:F.mg "zip" = none)(ha:Ev F a ρ ta)(hb:Ev F b ρ cM)(ea:er ta=.lst xs)(eb:er cM=.lst ys){p:Pos}(hg:∀ i,Gl (F.cx i) "zip" := by intro _;rfl)(hs:∀ i,starEach [a,b] (F.cx i).env=[(false,eval a (F.cx i).env),(false,eval b (F.cx i).env)]:=by intro _;rfl)(fG:∀ i,starEach [b] (F.cx i).env=[(false,eval b (F.cx i).env)]:=by intro _;rfl) :
  aX F (.Tuple elts kk tp) (.Call (.Name "zip" p) [a,b] [] pos) ρ (vH xs ys):=by
 obtain ⟨τ,p,q⟩:=(ah ha (ah hb ao fG) (fun i=>by rw [hs i,fG i])).use
 refine ⟨Oh F.K τ,fun i=>F.hK i ▸ W6 (hg i) ((F.hm i).symm ▸ hm) (p i) (hs i) (fG i),fun σ G H R s r k=>q σ G H _ s r fun vs G1 H1 s1 hx=>?_⟩
 obtain ⟨x,y,rfl,h1,h2⟩:=YG hx
 rw [ea] at h1
 rw [eb] at h2
 obtain ⟨l1,us,rfl,g1,g2⟩:=h1
 obtain ⟨l2,ws,rfl,g3,g4⟩:=h2
 have e1:=g2.length
 have e2:=g4.length
 refine ⟨l1,l2,us,ws,rfl,s1.s.seq g1,s1.s.seq g3,k _ G1 H1 s1 fun j G2 H2 sg sh=>⟨fun d hd=>?_,fun hz=>?_⟩⟩
 ·unfold vH at hd
  rw [abv] at hd
  cases qx:xs[j]? with
  |none=>rw [qx] at hd;cases hd
  |some dx =>
   cases qy:ys[j]? with
   |none=>rw [qx,qy] at hd;cases hd
   |some dy =>
    rw [qx,qy] at hd
    cases hd
    obtain ⟨vx,x1,x2⟩:=g2.get qx
    obtain ⟨vy,y1,y2⟩:=g4.get qy
    have lx:j<us.length:=(gz.mp x1).1
    have ly:j<ws.length:=(gz.mp y1).1
    refine ⟨⟨(sg.trans sh).seq g1,(sg.trans sh).seq g3,by omega⟩,?_⟩
    rintro x H3 ⟨T,wx,wy,hT,z1,z2,rfl,rfl⟩
    rw [x1] at z1
    rw [y1] at z2
    cases z1
    cases z2
    refine ⟨_,.new sh hT,T,_,rfl,eM.of bT,_,_,rfl,(x2.mono sg).mono (ai.new (sh.free hT)),_,_,rfl,(y2.mono sg).mono (ai.new (sh.free hT)),rfl⟩
 ·refine ⟨(sg.trans sh).seq g1,(sg.trans sh).seq g3,?_⟩
  rw [hz]
  unfold vH
  rw [acv,e1,e2]
theorem uD {xs:List Dv}(hm:F.mg "enumerate" = none)(ha:Ev F a ρ ta)(ea:er ta=.lst xs){p:Pos}(hg:∀ i,Gl (F.cx i) "enumerate" := by intro _;rfl)(hs:∀ i,starEach [a] (F.cx i).env=[(false,eval a (F.cx i).env)]:=by intro _;rfl):aX F (.Tuple elts kk tp) (.Call (.Name "enumerate" p) [a] [] pos) ρ (oK xs):=by
 obtain ⟨τ,p,q⟩:=(ah ha ao hs).use
 refine ⟨Oi F.K τ,fun i=>F.hK i ▸ V1 (hg i) ((F.hm i).symm ▸ hm) (p i) (hs i),fun σ G H R s r k=>q σ G H _ s r fun vs G1 H1 s1 hx=>?_⟩
 obtain ⟨x,rfl,h1⟩:=iU hx
 rw [ea] at h1
 obtain ⟨l1,us,rfl,g1,g2⟩:=h1
 have e1:=g2.length
 refine ⟨l1,us,rfl,s1.s.seq g1,k _ G1 H1 s1 fun j G2 H2 sg sh=>⟨fun d hd=>?_,fun hz=>?_⟩⟩
 ·unfold oK at hd
  rw [abv] at hd
  cases qx:xs[j]? with
  |none =>
   rw [qx] at hd
   cases q2:(List.range xs.length)[j]? with
   |none=>rw [q2] at hd;cases hd
   |some z=>rw [q2] at hd;cases hd
  |some dx =>
   have lj:j<xs.length:=(gz.mp qx).1
   rw [qx,IS lj] at hd
   cases hd
   obtain ⟨vx,x1,x2⟩:=g2.get qx
   refine ⟨⟨(sg.trans sh).seq g1,by omega⟩,?_⟩
   rintro x H3 ⟨T,wx,hT,z1,rfl,rfl⟩
   rw [x1] at z1
   cases z1
   exact ⟨_,.new sh hT,T,_,rfl,eM.of bT,_,_,rfl,⟨rfl,rfl⟩,_,_,rfl,(x2.mono sg).mono (ai.new (sh.free hT)),rfl⟩
 ·refine ⟨(sg.trans sh).seq g1,?_⟩
  rw [hz]
  unfold oK
  rw [acv,BY,acB,e1]
theorem JB {n:Nat}{ds dd:List Dv}(e:EE n (.tup ds)=some dd):ds.length=n/\dd=ds:=by
 have e':(if ds.length=n then some ds else none)=some dd:=e
 by_cases h:ds.length=n
 ·rw [Cn h] at e';cases e';exact ⟨h,rfl⟩
 ·rw [AM h] at e';cases e'
theorem p9 (j1 j2:Nat){x y:Str}{px py:Pos}(hN:∀ i,(F.cx i).N.Nodup)(h1:∀ i,(F.cx i).N[j1]?=some x:=by intro _;rfl)(h2:∀ i,(F.cx i).N[j2]?=some y:=by intro _;rfl)(hx:∀ i,Loc (F.cx i).env.scope x:=by intro _;first | exact Or.inl rfl | exact Or.inr rfl)(hy:∀ i,Loc (F.cx i).env.scope y:=by intro _;first | exact Or.inl rfl | exact Or.inr rfl)(fx:∀ i,(F.cx i).fn x=true\/(F.cx i).env.scope.names.lookup x=some .local:=by intro _;first | exact .inl rfl | exact .inr rfl)(fy:∀ i,(F.cx i).fn y=true\/(F.cx i).env.scope.names.lookup y=some .local:=by intro _;first | exact .inl rfl | exact .inr rfl) :
  iH F (.Tuple [.Name x px,.Name y py] kk tp) [j1,j2] (EE 2) :=
 ⟨yb F.K 2 (ko (dZ j1) (ko (dZ j2) x8)),fun i=>F.hK i ▸ xx (F.calm i) (iu (fO (hN i) (h1 i) (hx i) (fx i)) (iu (fO (hN i) (h2 i) (hy i) (fy i)) wX)),fun d dd v σ G H Q e s h k=>by
  cases d with
  |fl _=>cases e
  |lst _=>cases e
  |tup ds =>
   obtain ⟨hl,rfl⟩:=JB e
   obtain ⟨a,vs,rfl,q1,q2⟩:=h
   have hv:vs.length=2:=by rw [<- q2.length];exact hl
   refine ⟨a,vs,rfl,s.tup q1,hv,?_⟩
   match vs,hv with
   |[v1,v2],_=>exact ⟨v1,[v2],rfl,v2,[],rfl,rfl,k [v1,v2] q2⟩⟩
theorem LJ {e:Expr}{t:Tr}{js:List Nat}{sp:Dv->Option (List Dv)}{dd:List Dv}(he:cF F e ρ t)(hg:iH F tg js sp)(hd:sp (er t)=some dd)(hj:js.all (fun j=>Nat.blt j ρ.length)=true:=by rfl)(hs:∀ i,swapsWithSole [tg] e pos.line (F.cx i).env=pure false:=by intro _;rfl)(hw:∀ i,swappedStores [tg] e (F.cx i).env=pure none:=by intro _;rfl)(h1:∀ i,(assignEach [tg] (F.cx i).env).map (·.2)=[assign tg (F.cx i).env]:=by intro _;rfl):Rn F (.Assign [tg] e pos) ρ (.nx (aY js (dd.map .fz) ρ)):=by
 obtain ⟨τ,y,z⟩:=he
 obtain ⟨g,pg,qg⟩:=hg
 refine ⟨hU τ g,fun i=>sF (y i) (pg i) (hs i) (hw i) (h1 i),fun D σ G0 H0 G H r k=>?_⟩
 obtain ⟨fp,r⟩:=r
 refine z σ G H fp _ r.st.s r.own r.g fun v G1 H1 fq s1 o w=>?_
 refine qg (er t) dd v σ (eK G1 H1 fq) H1 _ hd (mF s1.s) (o.hv (jK w.g) fun a ha=>jM ha) fun vs iI=>k _ (eK G1 H1 fq) H1 (RS.aY (vE hj) iI ⟨fp,r.st.trans (s1.dt w),r.own.mono (s1.dt w).g s1.h,fun a ha=>?_,r.n,r.d⟩)
 cases q:eK G1 H1 fq a with
 |none=>rfl
 |some u =>
  obtain ⟨u',bz⟩:=r.own.there a ha
  have:=(s1.dt w).n a (r.g a ha) (by rw [q];exact fun z=>nomatch z)
  rw [bz] at this;cases this
end
theorem U3 {X:Cx}{elt tg iter:Expr}{ifs:List Expr}{sc:Scope}{cl:List (Str×Addr)}{own:List Str}{fr:List Nat}{pos ky py:Pos}{wi:TI}{g:TG}{tt:TT}{te:TE}{y0:Str}{j0:Nat}(L:gy X sc cl fr)(hc:X.calm=true)(hi:PI X tg iter wi)(hg:∀ C s H ex pn,PG (bE X own fr sc cl C s H ex pn) tg g)(ht:∀ C s H ex pn (pins:List (Addr×Obj)) (s1:Shared) (ak:St) (H1:Hp) (Q:Bool->Hp->Prop),Inv (bE X own fr sc cl C s H ex pn) pins ak H1 s1->tt ak H1 Q ->
   wpAny (model X.prog X.w) X.A (jL ifs (compEnvC sc (cellsFrom (C+1) sc.names cl) C X.env)) (TP (bE X own fr sc cl C s H ex pn) pins ak Q) cy s1)(he:∀ C s H ex pn,PE (bE X own fr sc cl C s H ex pn) elt te)(GL:X.N.Nodup)(GN:X.N[j0]?=some y0)(GO:Loc X.env.scope y0)(gV:swapsWith (.ListComp elt [⟨tg,iter,ifs,0⟩] sc pos) (some (.Name y0 py)) ky.line X.env=pure true)(GP:X.fn y0=true\/X.env.scope.names.lookup y0=some .local)(hs:∀ x,foldedSetIterable iter X.env x=pure x:=by intro _;rfl) :
  PS X (.Assign [.Name y0 py] (.ListComp elt [⟨tg,iter,ifs,0⟩] sc pos) ky) (hU (qU wi g tt te own fr) (dZ j0)):=by
 intro pins s σ H D I h
 rw [exec_Assign_Name_used _ _ _ _ gV]
 refine ba (YO (ba ?_))
 show wpAny _ X.A (do let _ <- comprehension (.ListComp elt [⟨tg,iter,ifs,0⟩] sc pos) sc X.env _ (newList []) false (eval iter X.env) (some (assign (.Name y0 py) X.env))) _ _ s
 refine ba (ET (abJ (use:=some (assign (.Name y0 py) X.env)) (Q:=fun _ s'=>SP X pins D .next s') rfl hs L.tf L.kind L.names (aj (hi pins s σ H _ I h) fun v s1 h1=>aj h1 fun oU s2 h2=>?_)) (fun _ s' hq=>wb (wb hq)) fun _ _ e=>e)
 obtain ⟨it,fp,tn,J,H2,e,I2,T,bO,f2,h2⟩:=h2
 subst e
 refine Sk ?_
 have I3:Inv X pins σ (upd H2 s2.heap.objs.size (.lst [])) { s2 with heap:=s2.heap.push { cls:=.type "list",data:=.seq ([]:List Value).toArray } }:=I2.vB (t':=s2.toks) .nil (Cs _)
 have n2:H2 s2.heap.objs.size=none:=I2.fresh
 obtain ⟨W,⟨m0,w0⟩,turn⟩:=h2 _ n2
 have ny:∀ b ∈ fp,b<s2.heap.objs.size:=fun b hb=>by
  obtain ⟨o,eo,_⟩:=T.obj 0 _ bO b hb
  exact lp eo
 have bb:∀ b ∈ fp,eW X pins (upd H2 s2.heap.objs.size (.lst [])) b:=fun b hb=>⟨by rw [ay (xp (ny b hb))];exact (f2 b hb).1,(f2 b hb).2⟩
 generalize fW:({ s2 with heap:=s2.heap.push { cls:=.type "list",data:=.seq ([]:List Value).toArray } }:Shared)=s3 at I3
 have fE:tn 0 s3.heap:=by
  rw [<- fW]
  exact T.keep 0 _ _ bO fun b hb o eo=>gc _ eo
 have iE:∀ b ∈ fp,b<s3.heap.objs.size:=fun b hb=>by
  obtain ⟨o,eo,_⟩:=T.obj 0 _ fE b hb
  exact lp eo
 generalize oY:upd H2 s2.heap.objs.size (.lst [])=H3 at I3 bb w0
 generalize s2.heap.objs.size=acc at turn w0 oY ⊢
 refine wu ?_
 have ig:(pushCells (s3.heap.push { cls:=.type "dict",data:=.dict #[] }) sc.names).Ns s3.heap.objs.size fun _=>none:=(Heap.Ns.new s3.heap (.type "dict")).keeps (OR _ _)
 have kp:∀ b o,s3.heap.get? b=some o->(pushCells (s3.heap.push { cls:=.type "dict",data:=.dict #[] }) sc.names).get? b=some o:=fun b o eo=>OR _ _ b o (gc _ eo)
 have ju:∀ y c,(cellsFrom (s3.heap.objs.size+1) sc.names cl).lookup y=some c->cl.lookup y=some c\/(pushCells (s3.heap.push { cls:=.type "dict",data:=.dict #[] }) sc.names).IsCell c none:=fun y c e =>
  sr sc.names (s3.heap.push { cls:=.type "dict",data:=.dict #[] }) cl y c (by rw [OP];exact e)
 generalize Gk:pushCells (s3.heap.push { cls:=.type "dict",data:=.dict #[] }) sc.names=h4 at ig kp ju
 have I4:=lcInv (own:=own) (tk:=s3.toks) L I3 bb iE ig kp ju
 have kG:tn 0 h4:=T.keep 0 _ _ fE fun b hb o eo=>kp b o eo
 have stat:∀ {H':Hp},(∀ b ∈ fp,H' b=none)->∀ b ∈ fp,eW (bE X own fr sc cl s3.heap.objs.size s3 H3 fp (X.pn++pins)) [] H' b:=fun {H'} hn b hb =>
  ⟨hn b hb,xp (iE b hb),fun z=>(gr.mp (I3.jO b z)).elim (bb b hb).2.1 (bb b hb).2.2.1,.inl hb,fun y c e=>(pL _ _ _ y c e).elim (fun q=>(bb b hb).2.2.2.2.1 y c (L.sub y c q)) fun q=>Nl (rb (iE b hb) (OK q.1)),fun p hp=>(bb b hb).2.2.2.2.2 p (by
   have z:p ∈ (X.pn++pins)++[]:=hp
   simpa using z)⟩
 have loop:codeAny (model X.prog X.w) X.A (.compLoop (.ListComp elt [⟨tg,iter,ifs,0⟩] sc pos) 0 (.ref it) (.ref acc) (compEnvC sc (cellsFrom (s3.heap.objs.size+1) sc.names cl) s3.heap.objs.size X.env))
   (compPost (model X.prog X.w) X.A X.xe (some (assign (.Name y0 py) X.env)) (fun _ s'=>SP X pins D .next s') (.ref acc) s3.heap.objs.size) { s3 with heap:=h4,toks:=s3.toks }:=by
  refine D7 (fun n s'=>∃ i ys ak H1,Inv (bE X own fr sc cl s3.heap.objs.size s3 H3 fp (X.pn++pins)) [] ak H1 s'/\tn i s'.heap/\(∀ b ∈ fp,H1 b=none)/\W i n ys ak H1) ?_ m0 ⟨0,[],_,H3,I4,kG,fun b hb=>(bb b hb).1,w0⟩
  rintro n s5 ⟨i,ys,fX,H5,I5,cL,jo,w5⟩
  obtain ⟨gO,hlen,hh⟩:=turn i n ys fX H5 w5
  rcases hh with ⟨stop,qn⟩ | ⟨go,N,hN,step⟩
  ·refine aj (T.done (bE X own fr sc cl s3.heap.objs.size s3 H3 fp (X.pn++pins)) rfl rfl rfl hc i [] s5 fX H5 cy I5 (stat jo) cL stop) fun r s6 ⟨hr,I6⟩=>?_
   subst hr
   obtain ⟨m6,kH,_⟩:=id I6.loc
   have back:∀ h7,Heap.SameBut s3.heap.objs.size s6.heap h7->Inv X pins σ H5 { s6 with heap:=h7 }:=fun h7 fY=>by
    have old:∀ b o,s3.heap.get? b=some o->b ≠ s3.heap.objs.size:=fun b o eo=>xp (lp eo)
    have u6:Un (bg X.stack) fp H3 H5 s3.heap s6.heap:=I6.base
    have u7:Un (bg X.stack) fp H3 H5 s3.heap h7 :=
     ⟨fun b o eo nn hb hx=>(fY.2 b (old b o eo)).trans (u6.keep b o eo nn hb hx),fun b o eo nn hb hx=>by
      obtain ⟨sl,q⟩:=u6.slot b o eo nn hb hx
      exact ⟨sl,(fY.2 b (old b o eo)).trans q⟩,u6.free,fun b o eo hx=>by
      obtain ⟨o',q⟩:=u6.there b o eo hx
      exact ⟨o',(fY.2 b (old b o eo)).trans q⟩,u6.dJ,u6.dF,u6.dN⟩
    have fC:H5 s3.heap.objs.size=none:=I6.free
    have qC:cV X.prog X.w H5 h7:=fun b ob eb=>by
     refine (I6.aq b ob eb).hJ (fun c w' fT q=>(fY.2 c ?_).trans q) (fun _ q=>q) fun _ _ q=>q
     rintro rfl
     rcases fT with z | z
     ·rw [<- z,fC] at eb;cases eb
     ·rw [fC] at z;cases z
    exact I3.sS (s':={ s6 with heap:=h7 }) I6.os u7 qC I6.bare fun b hb=>⟨(bb b hb).2.2.2.1,(bb b hb).2.1,(bb b hb).2.2.2.2.1,(bb b hb).2.2.2.2.2⟩
   have GQ:H5 s3.heap.objs.size=none:=I6.free
   show wpAny _ _ (assign (.Name y0 py) X.env (.ref acc)) _ X.xe s6
   refine acG (Cm (v:=.ref acc) (back s6.heap (Heap.SameBut.refl ..)) GL GN GO rfl (fun s7 I7 ⟨a,sb,ha⟩=>?_) GP)
   have aC:s3.heap.objs.size ≠ a:=by
    rcases ha with rfl | ha
    ·exact Nl I3.lt
    ·obtain ⟨v0,q0⟩:=I3.cell y0 a ha
     exact Nl q0.lt
   refine ⟨m6,kH.sameBut sb aC,fun h8 GR=>⟨_,H5,?_,qn⟩⟩
   exact Inv.xh (t':=s7.toks) (fs:=[s3.heap.objs.size]) I7 (fun b o hb e=>(GR.2 b (fun z=>hb (by rw [z];exact .head _))).trans e) (fun b hb=>by
    rw [mT.mp hb]
    exact I3.oE (H':=H5) (ee _) GQ)
  ·refine aj (T.item (bE X own fr sc cl s3.heap.objs.size s3 H3 fp (X.pn++pins)) rfl rfl rfl hc i [] s5 fX H5 cy I5 (stat jo) cL go) fun r s6 ⟨u,hr,h6⟩=>?_
   subst hr
   refine aj h6 fun _ s7 ⟨x,H7,I7,r7,y7,iF,qV⟩=>?_
   have qW:=I7.pinned (stat qV) (T.obj _ _ iF)
   refine aj (hg _ _ _ _ _ _ s7 fX H7 x u _ qW r7 (step x H7 y7)) fun _ s8 ⟨fZ,H8,I8,q8⟩=>?_
   have again:∀ {zs:List V} {bG:St} {H9:Hp} {s9:Shared},Inv (bE X own fr sc cl s3.heap.objs.size s3 H3 fp (X.pn++pins)) ([]++oh fp s7.heap) bG H9 s9->N zs bG H9 ->
     ∃ m,m<n/\∃ i ys ak H1,Inv (bE X own fr sc cl s3.heap.objs.size s3 H3 fp (X.pn++pins)) [] ak H1 s9/\tn i s9.heap/\(∀ b ∈ fp,H1 b=none)/\W i m ys ak H1:=fun {zs bG H9 s9} I9 n9=>by
    obtain ⟨m',hm,w9⟩:=hN zs bG H9 n9
    refine ⟨m',hm,i+1,zs,bG,H9,I9.pO,T.keep _ _ _ iF fun b hb o e=>(I9.pin (b,o) (ff _ (ff _ (lh hb e)))).1,fun b hb=>?_,w9⟩
    obtain ⟨o,e,d⟩:=T.obj _ _ iF b hb
    exact (I9.pin (b,o) (ff _ (ff _ (lh hb e)))).2.1
   refine aj (ht _ _ _ _ _ _ s8 fZ H8 _ I8 q8) fun ok s9 ⟨H9,I9,q9⟩=>?_
   cases ok with
   |false=>exact again I9 (by simpa using q9)
   |true =>
    refine aj (he _ _ _ _ _ _ s9 fZ H9 _ I9 q9) fun z iG ⟨y,qX,ef,nz,j9,qY⟩=>?_
    refine aj (kf _ iG fZ qX (.ref acc) [y] (.ref acc) [z] (fun _ H'=>N (ys++[y]) fZ H') ef rfl (.cons nz .nil) ⟨acc,ys,y,rfl,rfl,j9,hlen,qY⟩) fun _ Gm ⟨_,Gp,qZ,_,ra⟩=>again qZ ra
 rw [<- fW] at loop ⊢
 exact abp loop (lV (T.self _ 0 _ _ _ kG (by rw [fW];rw [fW] at loop;exact loop)))
section
variable {ι:Type}{F:aQ ι}{elt tg iter:Expr}{ifs:List Expr}{sc:Scope}{own:List Str}{fr:List Nat}{cl : ι->List (Str×Addr)}{ρ:En}{t:Tr}{pos ky py:Pos}
theorem ni (h:eR F own fr sc cl elt tg iter ifs ρ t):∃ τ,yI F own fr sc cl elt tg iter ifs τ/\∀ σ G H fp Q,ai G H->aJ F.K G H ρ σ fp->(∀ a ∈ fp,G a=none)->Kv F.K G H t Q->τ σ H Q :=
 let ⟨τ,v,y⟩:=h;⟨τ,v,fun σ G H fp Q s r _ k=>y σ G H Q s r.lY k⟩
theorem Fl (h:eR F own fr sc cl elt tg iter ifs (pk ρ) t)(c:Cl t):∃ τ,yI F own fr sc cl elt tg iter ifs τ/\∀ σ G H fp Q,ai G H->aJ F.K G H ρ σ fp->(∀ a ∈ fp,G a=none)->Kv F.K G H t Q->τ σ H Q:=by
 obtain ⟨τ,x,y⟩:=h
 refine ⟨τ,x,fun σ G H fp Q s r hg k=>?_⟩
 refine y σ (eK G H fp) H Q (mF s) (r.pk (jK hg) fun a ha=>jM ha) fun v G' H' fq st o w=>?_
 refine k v G H' fq ⟨ai.refl _,st.h,s.trans st.h,fun a h h'=>absurd h h'⟩ (o.cl c) ⟨w.n,fun a ha=>s.free (w.n a ha),w.d⟩
theorem jR (j:Nat){x:Str}(h:∃ τ,yI F own fr sc cl elt tg iter ifs τ/\∀ σ G H fp Q,ai G H->aJ F.K G H ρ σ fp->(∀ a ∈ fp,G a=none)->Kv F.K G H t Q->τ σ H Q)(L:∀ i,gy (F.cx i) sc (cl i) fr)(hN:∀ i,(F.cx i).N.Nodup)(hj:Nat.blt j ρ.length=true:=by rfl)(hi:∀ i,(F.cx i).N[j]?=some x:=by intro _;rfl)(hx:∀ i,Loc (F.cx i).env.scope x:=by intro _;first | exact Or.inl rfl | exact Or.inr rfl)(gV:∀ i,swapsWith (.ListComp elt [⟨tg,iter,ifs,0⟩] sc pos) (some (.Name x py)) ky.line (F.cx i).env=pure true:=by intro _;rfl)(hf:∀ i,(F.cx i).fn x=true\/(F.cx i).env.scope.names.lookup x=some .local:=by intro _;first | exact .inl rfl | exact .inr rfl)(hs:∀ i x,foldedSetIterable iter (F.cx i).env x=pure x:=by intro _ _;rfl) :
  Rn F (.Assign [.Name x py] (.ListComp elt [⟨tg,iter,ifs,0⟩] sc pos) ky) ρ (.nx (ρ.set j (some t))):=by
 obtain ⟨τ,⟨wi,g,tt,te,rfl,h1,h2,h3,h4⟩,z⟩:=h
 refine ⟨_,fun i=>U3 (cl:=cl i) (L i) (F.calm i) (h1 i) (fun C s H ex pn=>h2 (i,⟨C,s,H,ex,pn⟩)) (fun C s H ex pn=>h3 (i,⟨C,s,H,ex,pn⟩)) (fun C s H ex pn=>h4 (i,⟨C,s,H,ex,pn⟩)) (hN i) (hi i) (hx i) (gV i) (hf i) (hs i),fun D σ G0 H0 G H r k=>?_⟩
 obtain ⟨fp,r⟩:=r
 exact z σ G H fp _ r.st.s r.own r.g fun v G1 H1 fq s1 o w=>k _ G1 H1 (r.set (abq hj) s1 o w)
theorem eR.as {d:Dv}(h:eR F own fr sc cl elt tg iter ifs ρ t)(e:er t=d):eR F own fr sc cl elt tg iter ifs ρ (.fz d):=by
 obtain ⟨τ,v,q⟩:=h
 refine ⟨τ,v,fun σ G H Q s r k=>q σ G H Q s r fun v G' H' fq st o w=>?_⟩
 exact k v (eK G' H' fq) H' [] (st.dt w) ⟨rfl,e ▸ o.hv (jK w.g) fun a ha=>jM ha⟩ .nil
theorem eR.to {t':Tr}(h:eR F own fr sc cl elt tg iter ifs ρ t)(e:t=t'):eR F own fr sc cl elt tg iter ifs ρ t':=e ▸ h
end
section
variable {ι:Type}{F:aQ ι}{e a b c:Expr}{es:List Expr}{ρ:En}{t ta cM tc:Tr}{ts:List Tr}{pos:Pos}
theorem X5 {nm:Str}{id:String}{r:V->List V->Hp->VK->Prop}{xs:List Dv}{o:Expr}{to:Tr}(slot:Slot "list" nm id)(qT:typeOf (.builtin id)=pure (.type "method_descriptor"))(hm:∀ i,yz (F.cx i) id r)(ho:Ev F o ρ to)(eo:er to=.lst xs)(ha:fF F (e::es) ρ ts)(h:∀ G H x vs Q,ai G H->Hv F.K G (er to) x->aU F.K G (dz ts) vs->Kv F.K G H t Q->r x vs H Q){apos:Pos}(d8:∀ i,attributeBase o nm (F.cx i).env (eval o (F.cx i).env)=eval o (F.cx i).env:=by intro _;rfl)(fS:∀ i,((backTo pos (starEach (e::es) (F.cx i).env)).all (fun x=>!x.1)&&(backToKw pos (keywordEach [] (F.cx i).env)).all (fun x=>x.1.isSome)&&decide ((e::es).length+([]:List Keyword).length+(if ([]:List Keyword).isEmpty then 0 else 1)<30))=true:=by intro _;rfl)(hline:(apos.endLine==pos.line)=true:=by rfl)(hs:∀ i,starEach (e::es) (F.cx i).env=(false,eval e (F.cx i).env)::starEach es (F.cx i).env:=by intro _;rfl)(u9:∀ i,(backTo pos (starEach es (F.cx i).env)).any (·.1)=false:=by intro _;rfl) :
  Ev F (.Call (.Attribute o nm apos) (e::es) [] pos) ρ t:=by
 obtain ⟨τ,p,q⟩:=ho.use
 obtain ⟨bX,p',q'⟩:=ha.use
 refine ⟨eO F.K "list" r τ bX,fun i=>F.hK i ▸ gK xy slot qT (hm i) (p i) (p' i) (d8 i) (fS i) hline (hs i) (u9 i),fun σ G H Q s rr k=>?_⟩
 refine q σ G H _ s rr fun x G1 H1 s1 hx=>⟨?_,q' σ G1 H1 _ s1.s (rr.mono s1.g) fun vs G2 H2 s2 hv=>h G2 H2 x vs Q s2.s (hx.mono s2.g) hv (k.step (s1.trans s2))⟩
 rw [eo] at hx
 obtain ⟨l,us,rfl,h1,h2⟩:=hx
 exact .inl ⟨rfl,_,s1.s.seq h1⟩
theorem Ct {K:Frag}{G:Hp}:∀ {bs:List Bool} {vs:List V},aU K G (bs.map db) vs->vs=bs.map V.bl
 |[],_,h=>h
 |_::_,_,⟨x,r,h1,h2,h3⟩=>by subst h1;rw [aB h2,Ct h3];rfl
theorem km {bs:List Bool}(hm:F.mg "all" = none)(ha:Ev F e ρ ta)(ea:er ta=.lst (bs.map db)){p':Pos}(hg:∀ i,Gl (F.cx i) "all" := by intro _;rfl)(hs:∀ i,starEach [e] (F.cx i).env=[(false,eval e (F.cx i).env)]:=by intro _;rfl):Ev F (.Call (.Name "all" p') [e] [] pos) ρ (tb (bs.all id)) :=
 wK (r:=Ob F.K) (fun i=>F.hK i ▸ U0 (F.calm i)) hm WX (ah ha ao hs) (fun G H vs Q s hx k=>by
  obtain ⟨x,rfl,lX⟩:=iU hx
  replace hx:=lX
  rw [ea] at hx
  obtain ⟨l,ys,rfl,h1,h2⟩:=hx
  have:=Ct h2
  subst this
  exact ⟨l,bs,rfl,s.seq h1,k.sc s rfl⟩) hg (by decide) (by decide) hs (fun _=>rfl)
theorem Jp {α β:Type}(l:List α)(d : α)(f : α->β):(List.range l.length).map (fun k=>f ((l[k]?).getD d))=l.map f:=by
 refine List.ext_getElem? fun i=>?_
 rw [i4,i4]
 rcases abL i l.length with h | h
 ·rw [IS h,ar h]
  show some (f ((l[i]?).getD d))=_
  rw [ar h]
  rfl
 ·rw [Lo (by simpa using h),Lo h]
  rfl
theorem Mz:∀ ds:List Dv,dz (ds.map .fz)=ds
 |[] => rfl
 |d::ds=>by show d::dz (ds.map .fz)=_;rw [Mz ds]
theorem gk (ds:List Dv):er (.ow (ds.map .fz))=.lst ds:=by show Dv.lst _=_;rw [Mz]
theorem Ev.to {t':Tr}(h:Ev F e ρ t)(q:t=t'):Ev F e ρ t':=q ▸ h
theorem Et.to {p q:Bool}(h:Et F e ρ p)(z:p=q):Et F e ρ q:=z ▸ h
theorem cF.to {t':Tr}(h:cF F e ρ t)(q:t=t'):cF F e ρ t':=q ▸ h
theorem oq {A B:List Stmt}{o:Out}{p:Bool}(hc:cG F c ρ p)(hp:p=true)(h1:cz F A ρ o):Rn F (.If c A B pos) ρ o:=Nh hc (fun _=>h1) fun h=>by rw [hp] at h;cases h
theorem W7 {A B:List Stmt}{o:Out}{p:Bool}(hc:cG F c ρ p)(hp:p=false)(h1:cz F B ρ o):Rn F (.If c A B pos) ρ o:=Nh hc (fun h=>by rw [hp] at h;cases h) fun _=>h1
theorem cA {A:List Stmt}{p:Bool}(hc:cG F c ρ p)(hp:p=false):Rn F (.If c A [] pos) ρ (.nx ρ):=W7 hc hp LA
def Oj (dd:List Dv)(t:Tr):Prop:=∃ ns:LI,ns.length<=63/\dd=[dis ns]/\t=tb true
def xS (K:Frag):Sp:=fun vs H Q _=>∃ (a:Addr) (ns:LI),vs=[.ref a]/\aF K H a (ns.map V.int)/\ns.length<=63/\∀ H',Q (.bl true) H'
theorem W8 {P:Program}{w:World}{K:Frag}{mg:Str->Option Value}{base:Heap}{k:Nat}{f:Addr}{fd:FuncData}(F:bc P w K mg base aG k f fd ["_law_script"] (spT K Oj)):bc P w K mg base aG k f fd ["_law_script"] (xS K) :=
 F.imp fun vs H Q E ⟨a,ns,e,h1,h2,h3⟩=>⟨H,[dis ns],tb true,ai.refl _,⟨.ref a,[],e,⟨a,_,rfl,h1,wJ⟩,rfl⟩,⟨ns,h2,rfl,rfl⟩,fun v G' H' fq st o w=>by rw [aB o.2];exact h3 H'⟩
end
theorem pW {lo:Int}{n j:Nat}{d:Dv}(h:(nh lo n)[j]?=some d):j<n/\d=di (lo+(j:Int)):=by
 rw [i4] at h
 rcases abL j n with hj | hj
 ·rw [IS hj] at h;cases h;exact ⟨hj,rfl⟩
 ·rw [Lo (by simpa using hj)] at h;cases h
theorem iN {α β:Type}{f : α->β}{l:List α}{j:Nat}{d : β}(h:(l.map f)[j]?=some d):∃ x,l[j]?=some x/\d=f x:=by
 rw [i4] at h
 cases q:l[j]? with
 |none=>rw [q] at h;cases h
 |some x=>rw [q] at h;cases h;exact ⟨x,rfl,rfl⟩
theorem nQ {α:Type}{l:List α}{i:Nat}{x : α}(h:l[i]?=some x):l.take (i+1)=l.take i++[x]:=by rw [List.take_succ,h];rfl
theorem By {ι:Type}{F:aQ ι}{bh:List Stmt}{ρ:En}{o:Out}{t:Tr}{d:Dv}(j:Nat)(hj : ρ[j]?=some (some t))(e:er t=d)(h:cz F bh (ρ.set j (some (.fz d))) o):cz F bh ρ o:=Tq j hj (e ▸ h)
def aW (ns:LI)(k:Int):Int:=ns.getD k.toNat 0
theorem cell_in {ns:LI}{k:Int}(h0 : 0<=k)(h:k<ns.length):cC (ns.map di) k=some (di (aW ns k)):=by
 obtain ⟨j,rfl⟩:∃ j:Nat,k=(j:Int):=⟨k.toNat,by omega⟩
 have hj:j<ns.length:=by omega
 refine gx ?_
 unfold aW
 rw [i4,ar hj,br,show (j:Int).toNat=j by omega,ar hj]
 rfl
theorem cell_out {ns:LI}{k:Int}(h0 : 0<=k)(h:ns.length<=k):aW ns k=0:=by
 unfold aW
 rw [br,Lo (by omega)]
 rfl
theorem Kx {α β:Type}(f : α->β)(l:List α)(a b:Option Int):cutD (l.map f) a b=(cutD l a b).map f:=by
 unfold cutD
 rw [aa,acK,Zp]
theorem U4 {α:Type}(l:List α)(a b:Option Int):(cutD l a b).length<=l.length:=by
 unfold cutD
 rw [DO,EO]
 omega
mutual
def gW:Dv->Bool
 | .fl v=>fA v
 | .lst ds=>qD ds
 | .tup ds=>qD ds
def qD:List Dv->Bool
 |[] => true
 |d::ds=>gW d&&qD ds
end
mutual
theorem De:∀ {d:Dv},gW d=true->eQ d d=true
 | .fl v,h=>Km h
 | .lst ds,h=>Cu h
 | .tup ds,h=>Cu h
theorem Cu:∀ {ds:List Dv},qD ds=true->ia ds ds=true
 |[],_=>rfl
 |d::ds,h=>by
  have h':(gW d&&qD ds)=true:=h
  rw [DD] at h'
  show (eQ d d&&ia ds ds)=true
  rw [De h'.1,Cu h'.2]
  rfl
end
theorem Df {α:Type}{f : α->Dv}(h:∀ a,gW (f a)=true):∀ l:List α,qD (l.map f)=true
 |[] => rfl
 |a::l=>by
  show (gW (f a)&&qD (l.map f))=true
  rw [h a,Df h l]
  rfl
theorem xj {n:Nat}:∀ {ds:List Dv},(∀ d ∈ ds,gU d<=n)->eX ds<=n
 |[],_=>Cs _
 |d::ds,h=>by
  show max (gU d) (eX ds)<=n
  exact Nat.max_le.mpr ⟨h d (.head _),xj fun x hx=>h x (.tail _ hx)⟩
theorem DM (l:LI):gW (dis l)=true:=Df (fun _=>rfl) l
theorem xk (l:LI):gU (dis l)<=1:=by
 show eX _+1<=1
 have:eX (l.map di)<=0:=xj fun d hd=>by
  obtain ⟨_,_,rfl⟩:=zd.mp hd
  exact ee _
 omega
theorem uN {n:Nat}{ds:List Dv}(h:∀ d ∈ ds,gU d<=n):gU (.lst ds)<=n+1:=acM (xj h)
theorem LK {n:Nat}{ds:List Dv}(h:∀ d ∈ ds,gU d<=n):gU (.tup ds)<=n+1:=acM (xj h)
theorem LN {α:Type}{f : α->Dv}(h:∀ a,gW (f a)=true)(l:List α):gW (.lst (l.map f))=true:=Df h l
end L2
namespace L2
open PySem PySem.Spec PyProof.Rows
theorem aM.setAt {K:Frag}{G H:Hp}:∀ {us:List Tr} {vs:List V} {fq:List Addr} {m:Nat} {t:Tr} {v:V} {f:List Addr},aM K G H us vs fq->m<us.length->Ow K G H t v f->fq.Nodup->f.Nodup->(∀ a ∈ f,a ∉ fq) ->
  ∃ fw,aM K G H (us.set m t) (vs.set m v) fw/\fw.Nodup/\∀ a ∈ fw,a ∈ fq\/a ∈ f
 |u::us,_,_,0,t,v,f,⟨w,r,f1,f2,h1,h2,h3,h4⟩,_,o,nd,nf,dj=>by
  subst h1 h2
  have dg:=ue.mp nd
  refine ⟨f++f2,⟨v,r,f,f2,rfl,rfl,o,h4⟩,ue.mpr ⟨nf,dg.2.1,fun a ha b hb e=>dj a ha (e ▸ ff _ hb)⟩,fun a ha=>?_⟩
  rcases ij.mp ha with z | z
  ·exact .inr z
  ·exact .inl (ff _ z)
 |u::us,_,_,m+1,t,v,f,⟨w,r,f1,f2,h1,h2,h3,h4⟩,hm,o,nd,nf,dj=>by
  subst h1 h2
  have dg:=ue.mp nd
  obtain ⟨fw,q1,q2,q3⟩:=aM.setAt (m:=m) h4 (Nat.lt_of_succ_lt_succ hm) o dg.2.1 nf fun a ha z=>dj a ha (ff _ z)
  refine ⟨f1++fw,⟨w,_,f1,fw,rfl,rfl,h3,q1⟩,ue.mpr ⟨dg.1,q2,fun a ha b hb e=>?_⟩,fun a ha=>?_⟩
  ·subst e
   rcases q3 a hb with z | z
   ·exact dg.2.2 a ha a z rfl
   ·exact dj a z (rf _ ha)
  ·rcases ij.mp ha with z | z
   ·exact .inl (rf _ z)
   ·exact (q3 a z).imp (ff _) id
theorem Ky {ι:Type}{F:aQ ι}{e:Expr}{ρ:En}{t:Tr}{pos:Pos}(j:Nat){x:Str}{us:List Tr}{n:Int}{m:Nat}{nE:Expr}{p1 p2:Pos}(h : ρ[j]?=some (some (.ow us)))(hn:cF F nE ρ (ti n))(hm:iY us.length n=some m)(he:cF F e ρ t)(hN:∀ i,(F.cx i).N[j]?=some x:=by intro _;rfl)(hv:∀ i,kC (F.cx i).env.scope x:=by intro _;first | exact Or.inl rfl | exact Or.inr (Or.inl rfl) | exact Or.inr (Or.inr rfl))(hd:(x==("__debug__" : Str))=false:=by decide)(hc:(x==("__classdict__" : Str))=false:=by decide)(hs:∀ i,swapsWithSole [.Subscript (.Name x p1) nE p2] e pos.line (F.cx i).env=pure false:=by intro _;rfl)(hw:∀ i,swappedStores [.Subscript (.Name x p1) nE p2] e (F.cx i).env=pure none:=by intro _;rfl)(h1:∀ i,(assignEach [.Subscript (.Name x p1) nE p2] (F.cx i).env).map (·.2)=[assign (.Subscript (.Name x p1) nE p2) (F.cx i).env]:=by intro _;rfl)(hps:∀ i,PG (F.cx i) (.Subscript (.Name x p1) nE p2) (yd (bD j) (uE F nE) xP)) :
  Rn F (.Assign [.Subscript (.Name x p1) nE p2] e pos) ρ (.nx (ρ.set j (some (.ow (us.set m t))))):=by
 obtain ⟨τ,y,z⟩:=he
 obtain ⟨GU,yn,zn⟩:=hn
 refine ⟨hU τ (yd (bD j) (uE F nE) xP),fun i=>sF (y i) (hps i) (hs i) (hw i) (h1 i),fun D σ G0 H0 G H r k=>?_⟩
 obtain ⟨fp,r⟩:=r
 refine z σ G H fp _ r.st.s r.own r.g fun v1 G1 H1 f1 s1 o1 w1=>?_
 have r1:dU F.K G0 H0 G1 H1 ρ σ fp:=⟨r.st.trans s1,r.own.mono s1.g s1.h,r.own.off s1 r.g,r.n,r.d⟩
 obtain ⟨l0,Gz,GA,c1,c2,_⟩:=r1.mut h (.refl r1.st.s)
 refine ⟨_,c1,GU,yn,zn σ G1 H1 fp _ r1.st.s r1.own r1.g fun vn G2 H2 f2 s2 o2 w2=>?_⟩
 obtain ⟨l,vs,fq,d1,d2,d3,d4,d5,d6,d7⟩:=r.mut h (s1.trans s2)
 rw [c1] at d1
 cases d1
 have tQ:m<us.length:=(wZ hm).2.1
 have nf:∀ a ∈ f1,a ∉ fq:=fun a ha hb=>by
  obtain ⟨u,hu⟩:=r.own.there a (d6 a hb)
  rw [w1.n a ha] at hu;cases hu
 obtain ⟨fw,q1,q2,q3⟩:=d4.setAt tQ (o1.mono s2.g s2.h) d5 w1.d nf
 refine ⟨l0,vs,n,m,rfl,aB o2.2,d3,by rw [<- d4.length];exact hm,k σ G2 _ (d7 (us.set m t) (vs.set m v1) fw q1 q2 fun a ha=>(q3 a ha).imp id fun z=>⟨w1.n a z,?_⟩)⟩
 cases q:G2 a with
 |none=>rfl
 |some u =>
  obtain ⟨u',bz⟩:=o1.there a z
  have:=s2.n a (w1.g a z) (by rw [q];exact fun z=>nomatch z)
  rw [bz] at this;cases this
def W9 (ta:TA):TE:=fun σ H Q=>ta σ H fun vs H1=>∃ j:Int,vs=[.int j]/\∀ p,H1 p=none->Q (.ref p) (upd H1 p (.ic 0 j))
section
variable {X:Cx}
theorem Uj {a:Expr}{ta:TA}{p pos:Pos}(hg:Gl X "range")(hm:X.mg "range" = none)(ha:PA X [a] ta)(hs:starEach [a] X.env=[(false,eval a X.env)]:=by rfl):PE X (.Call (.Name "range" p) [a] [] pos) (W9 ta):=by
 intro pins s σ H Q I h
 refine Call_ (n8 I hg hm boot_range (Me (aj (ha pos pins s σ H _ I h) fun us s1 ⟨vs,H1,I1,r1,q1⟩=>?_) hs rfl))
 obtain ⟨j,e,q⟩:=q1
 subst e
 cases r1 with
 |cons r rr =>
  cases rr
  obtain ⟨t,rfl⟩:=r
  refine call_range_1 ⟨.ref _,_,I1.laid (t':=s1.toks+1+1) (o:=.ic 0 j) (fun b ob q=>gc _ q) (ee _) ?_,rfl,q _ (I1.aq.fresh (ee _))⟩
  exact ⟨_,_,_,ze _ rfl⟩
theorem Sd (hc:X.calm=true):fm X (.type "list") (fun xs H Q=>∃ p n,xs=[.ref p]/\H p=some (.ic 0 n)/\0<=n/\n<2 ^ 20/\∀ l,H l=none->Q (.ref l) (upd H l (.lst ((List.range n.toNat).map fun i=>.int (0+((i:Nat):Int)))))):=by
 intro pins s σ H xs us Q I r h
 obtain ⟨p,n,rfl,hH,h0,h1,q⟩:=h
 obtain ⟨u,rfl,rx⟩:=vals1 r
 cases rx
 obtain ⟨t,u,v,e⟩:=(show dD X.prog X.w H s.heap p (.ic 0 n) from I.aq p _ hH)
 have X6:Builtin.Range.rangeSize 0 n 1=(n.toNat:Nat):=by rw [rangeSize_pos (by decide) h0];omega
 refine call_list_range (n:=n.toNat) (I.ok.hd hc) e (To h0 (by omega) (by decide) (by decide)) X6 (by omega) fun h' tk Ol c' kp e' it=>?_
 refine ⟨.ref s.heap.objs.size,_,I.laid (t':=tk) (o:=.lst ((List.range n.toNat).map fun i=>.int (0+((i:Nat):Int)))) kp (ee _) ?_,rfl,q _ (I.aq.fresh (ee _))⟩
 have hs:sizeLine=16777216:=sizeLine_eq
 refine ⟨by rw [aa,BY];omega,Ol.toList,c',?_,by rw [Array.toArray_toList];exact e'⟩
 obtain ⟨i1,i2⟩:=it
 have gen:∀ (l:List Value) (k:Nat),(∀ j v,l[j]?=some v->∃ t,v=Value.int (0+((k+j:Nat):Int)) t)->Vals ((List.range l.length).map fun i=>V.int (0+((k+i:Nat):Int))) l:=by
  intro l
  induction l with
  |nil=>intro k _;exact .nil
  |cons a l ih =>
   intro k hk
   rw [mf,ab4,ES,qr]
   obtain ⟨t,ht⟩:=hk 0 a rfl
   refine .cons ⟨t,by rw [ht]⟩ ?_
   have:=ih (k+1) (fun j v hj=>by
    obtain ⟨t,ht⟩:=hk (j+1) v hj
    exact ⟨t,by rw [ht,show k+(j+1)=k+1+j by omega]⟩)
   refine (ON fun i _=>?_) ▸ this
   show V.int (0+((k+1+i:Nat):Int))=V.int (0+((k+(i+1):Nat):Int))
   rw [show k+1+i=k+(i+1) by omega]
 have g0:=gen Ol.toList 0 fun j v hj=>by
  obtain ⟨t,ht⟩:=i2 j v (by rw [<- aci];exact hj)
  refine ⟨t,?_⟩
  rw [ht,Int.mul_one,Nat.zero_add]
 rw [AN,i1] at g0
 have e0:((List.range n.toNat).map fun i=>V.int (0+((0+i:Nat):Int)))=(List.range n.toNat).map fun i=>V.int (0+((i:Nat):Int)):=ON fun i _=>by rw [Nat.zero_add]
 rw [e0] at g0
 exact g0
def Om (K:Frag):List V->Hp->VK->Prop:=fun xs H Q=>∃ (p:Addr) (bs:List Bool),xs=[.ref p]/\aF K H p (bs.map V.bl)/\Q (.bl (bs.any id)) H
theorem range_any (bs:List Bool):((List.range bs.length).any fun i=>(bs[i]?).getD false)=bs.any id:=by
 have:=congrArg (fun l:List Bool=>l.any id) (Jp bs false id)
 simp only [List.any_map,acX] at this
 exact this
theorem U5 (hc:X.calm=true):fm X (.builtin "any") (Om X.K):=by
 intro pins s σ H xs us Q I r h
 obtain ⟨p,bs,rfl,hq,q⟩:=h
 cases r with
 |cons r1 rr =>
  cases rr
  cases r1
  obtain ⟨its,rv,pl,hz⟩:=I.list hq
  have hb:=Kr rv
  have hl:s.heap.IsList p its.toArray:=pl.isList
  have dR:p<s.heap.objs.size:=by obtain ⟨_,e,_⟩:=hl;exact lp e
  refine call_any_walk (ab6 hl ?_)
  refine ⟨s.heap.objs.size,[s.heap.objs.size,p],[s.heap.objs.size],its.toArray.size,_,_,fun i=>(bs[i]?).getD false,rfl,Walks.list (A:=X.A.in1) (I.ok.hd hc) _ p (xp dR) its.toArray,
   ⟨⟨_,ze _ rfl,rfl,rfl⟩,hl.push _⟩,fun i v s' Q' E' hP hQ=>?_,fun h' tk hk=>?_⟩
  ·obtain ⟨b,e,rfl⟩:=hb.get i v (by simpa using hP)
   simp only [e,acN] at hQ
   exact WI hQ
  ·have e:((List.range its.toArray.size).any fun i=>(bs[i]?).getD false)=bs.any id:=by
    rw [i8,hb.length];exact range_any bs
   rw [e]
   exact ⟨.bl _,H,I.kept (t':=tk) (LSm.kept_iter hk),rfl,q⟩
def unlike (ns:LI):Nat:=(firstMet (fun i=>ns.getD i 0) ns.length).length
theorem Se (hc:X.calm=true):fm X (.type "set") (fun xs H Q=>∃ (p:Addr) (ns:LI),xs=[.ref p]/\aF X.K H p (ns.map V.int)/\ns.length<1000/\∀ l S,H l=none->Q (.ref l) (upd H l (.set S (unlike ns)))):=by
 intro pins s σ H xs us Q I r h
 obtain ⟨p,ns,rfl,hq,hz,q⟩:=h
 obtain ⟨u,rfl,rx⟩:=vals1 r
 cases rx
 obtain ⟨its,rv,pl,_⟩:=I.list hq
 have hi:=intsAre_of rv
 have hl:=rv.length
 rw [aa] at hl
 refine call_set_list (ns:=ns) (I.ok.hd hc) pl.isList (by simpa using hi) (by rw [i8,<- hl];exact rb (Nat.succ_lt_succ hz) (by decide)) fun h' tk hs kp=>?_
 have lU:its.toArray.size=ns.length:=by rw [i8,<- hl]
 rw [lU] at hs
 exact ⟨.ref s.heap.objs.size,_,I.laid (t':=tk) (o:=.set _ (unlike ns)) (fun b o e=>kp b o (lp e) e) (ee _) hs,rfl,q _ _ (I.aq.fresh (ee _))⟩
theorem Sf:fm X (.builtin "len") (fun xs H Q=>∃ p S n,xs=[.ref p]/\H p=some (.set S n)/\Q (.int n) H):=by
 intro pins s σ H xs us Q I r h
 obtain ⟨p,S,n,rfl,hH,q⟩:=h
 obtain ⟨u,rfl,rx⟩:=vals1 r
 cases rx
 obtain ⟨o,es,ep,t,h1,h2,h3,_,_,h4,h5,h6⟩:=(show dD X.prog X.w H s.heap p (.set S n) from I.aq p _ hH)
 subst h6
 refine call_len_set h1 h2 h3 h5 (by have:es.size<4096:=h4;omega) ⟨.int _,H,I.tok _,⟨_,rfl⟩,q⟩
theorem SM {ns:LI}(h:ns.Nodup):unlike ns=ns.length:=by
 have gen:∀ i,i<=ns.length->firstMet (fun i=>ns.getD i 0) i=ns.take i:=by
  intro i
  induction i with
  |zero=>intro _;rw [firstMet_zero];simp
  |succ i ih =>
   intro hi
   rw [firstMet_succ,ih (by omega)]
   have hx:ns[i]?=some (ns[i]'(by omega)):=ar _
   rw [nQ hx]
   have e:ns.getD i 0=ns[i]'(by omega):=by rw [br,hx];rfl
   show step_dedup (ns.take i) (ns.getD i 0)=_
   rw [e]
   unfold step_dedup
   have:((ns.take i).any (·==ns[i]'(by omega)))=false:=by
    rw [Bool.eq_false_iff]
    intro z
    obtain ⟨y,hy,hyy⟩:=abF.mp z
    have oW:y=ns[i]'(by omega):=by simpa using hyy
    subst oW
    obtain ⟨j,hj,vX⟩:=acn.mp hy
    rw [List.getElem_take] at vX
    rw [DO] at hj
    have:=(aaa (xs:=ns) h).mp vX
    omega
   rw [this]
   rfl
 unfold unlike
 rw [gen ns.length (ee _),acm]
end
section
variable {ι:Type}{F:aQ ι}{e a b c:Expr}{es:List Expr}{ρ:En}{t ta cM:Tr}{ts:List Tr}{pos:Pos}
theorem xl (l:LI):(l.map di).map Tr.fz=l.map fun n=>Tr.fz (di n):=by rw [qr];rfl
theorem SN {n:Int}(hm:F.mg "list" = none)(kK:F.mg "range" = none)(ha:Ev F a ρ (ti n))(h0 : 0<=n)(h1:n<2 ^ 20){p1 p2 pos1:Pos}(hg:∀ i,Gl (F.cx i) "list" := by intro _;rfl)(nG:∀ i,Gl (F.cx i) "range" := by intro _;rfl)(hs:∀ i,starEach [a] (F.cx i).env=[(false,eval a (F.cx i).env)]:=by intro _;rfl)(fG:∀ i,starEach [.Call (.Name "range" p2) [a] [] pos1] (F.cx i).env=[(false,eval (.Call (.Name "range" p2) [a] [] pos1) (F.cx i).env)]:=by intro _;rfl) :
  Ev F (.Call (.Name "list" p1) [.Call (.Name "range" p2) [a] [] pos1] [] pos) ρ (.ow (((List.range n.toNat).map fun i=>(0+((i:Nat):Int))).map fun n=>.fz (di n))):=by
 obtain ⟨τ,p,q⟩:=ha.use
 refine ⟨_,fun i=>wG (Sd (F.calm i)) (hg i) ((F.hm i).symm ▸ hm) Lr (au (Uj (nG i) ((F.hm i).symm ▸ kK) (au (p i) aV (hs i)) (hs i)) aV (fG i)) (by decide) (by decide) (fG i) rfl,fun σ G H Q s rr k=>q σ G H _ s rr fun x G1 H1 s1 hx=>?_⟩
 refine ⟨n,by rw [aB hx],fun p0 Qe=>⟨p0,n,rfl,bT,h0,h1,fun l hl=>?_⟩⟩
 have k2:=k.step (s1.trans (Step.lO (o:=.ic 0 n) s1.s Qe))
 have e:((List.range n.toNat).map fun i=>V.int (0+((i:Nat):Int)))=((List.range n.toNat).map fun i=>(0+((i:Nat):Int))).map V.int:=by rw [qr];rfl
 rw [e]
 refine k2.lst (s1.s.trans (ai.new Qe)) ?_ hl
 rw [<- xl]
 exact wJ.lW
theorem mP {bs:List Bool}(hm:F.mg "any" = none)(ha:Ev F e ρ ta)(ea:er ta=.lst (bs.map db)){p':Pos}(hg:∀ i,Gl (F.cx i) "any" := by intro _;rfl)(hs:∀ i,starEach [e] (F.cx i).env=[(false,eval e (F.cx i).env)]:=by intro _;rfl):Ev F (.Call (.Name "any" p') [e] [] pos) ρ (tb (bs.any id)) :=
 wK (r:=Om F.K) (fun i=>F.hK i ▸ U5 (F.calm i)) hm WY (ah ha ao hs) (fun G H vs Q s hx k=>by
  obtain ⟨x,rfl,lX⟩:=iU hx
  rw [ea] at lX
  obtain ⟨l,ys,rfl,h1,h2⟩:=lX
  have:=Ct h2
  subst this
  exact ⟨l,bs,rfl,s.seq h1,k.sc s rfl⟩) hg (by decide) (by decide) hs (fun _=>rfl)
theorem MA:bootBuiltins "set" = some (.type "set"):=by decide +kernel
theorem Cv {ns:LI}(hm:F.mg "len" = none)(kK:F.mg "set" = none)(ha:Ev F a ρ ta)(ea:er ta=dis ns)(hz:ns.length<1000){p1 p2 pos1:Pos}(hg:∀ i,Gl (F.cx i) "len" := by intro _;rfl)(nG:∀ i,Gl (F.cx i) "set" := by intro _;rfl)(hs:∀ i,starEach [a] (F.cx i).env=[(false,eval a (F.cx i).env)]:=by intro _;rfl)(fG:∀ i,starEach [.Call (.Name "set" p2) [a] [] pos1] (F.cx i).env=[(false,eval (.Call (.Name "set" p2) [a] [] pos1) (F.cx i).env)]:=by intro _;rfl) :
  Ev F (.Call (.Name "len" p1) [.Call (.Name "set" p2) [a] [] pos1] [] pos) ρ (ti (unlike ns:Nat)):=by
 obtain ⟨τ,p,q⟩:=ha.use
 refine ⟨nr _ (aT (nr (fun xs H Q=>∃ (p:Addr) (ns:LI),xs=[.ref p]/\aF F.K H p (ns.map V.int)/\ns.length<1000/\∀ l S,H l=none->Q (.ref l) (upd H l (.set S (unlike ns)))) (aT τ ck)) ck),fun i=>fL Sf (hg i) ((F.hm i).symm ▸ hm) xB (au (wG (F.hK i ▸ Se (F.calm i)) (nG i) ((F.hm i).symm ▸ kK) MA (au (p i) aV (hs i)) (by decide) (by decide) (hs i) rfl) aV (fG i)) (by decide) (by decide) (fG i) rfl,fun σ G H Q s rr k=>q σ G H _ s rr fun x G1 H1 s1 hx=>?_⟩
 rw [ea] at hx
 obtain ⟨l,ys,rfl,h1,h2⟩:=hx
 have:=Ks h2
 subst this
 refine ⟨l,ns,rfl,s1.s.seq h1,hz,fun l0 S vY=>⟨l0,S,_,rfl,bT,?_⟩⟩
 exact (k.step (s1.trans (Step.lO (o:=.set S (unlike ns)) s1.s vY))).sc (s1.s.trans (ai.new vY)) rfl
theorem Kz {K:Frag}{G:Hp}:∀ {ws:List V} {vs:List V},aU K G (ws.map .fl) vs->vs=ws/\ws.all fA=true
 |[],_,h=>⟨h,rfl⟩
 |_::_,_,⟨x,r,h1,h2,h3⟩=>by
  obtain ⟨e1,e2⟩:=Kz h3
  subst h1
  refine ⟨by rw [h2.1,e1],?_⟩
  rw [Zl,e2,h2.2]
  rfl
theorem aM.erase {K:Frag}{G H:Hp}:∀ {us:List Tr} {vs:List V} {fq:List Addr} {m:Nat} {u:Tr},aM K G H us vs fq->us[m]?=some u->fq.Nodup->∃ v f fw,vs[m]?=some v/\Ow K G H u v f/\aM K G H (us.eraseIdx m) (vs.eraseIdx m) fw/\fw.Nodup/\f.Nodup/\(∀ a ∈ fw,a ∈ fq)/\(∀ a ∈ f,a ∈ fq)/\∀ a ∈ f,a ∉ fw
 |t::us,_,_,0,u,⟨v,r,f1,f2,h1,h2,h3,h4⟩,hu,nd=>by
  cases hu
  subst h1 h2
  have dg:=ue.mp nd
  exact ⟨v,f1,f2,rfl,h3,h4,dg.2.1,dg.1,fun a ha=>ff _ ha,fun a ha=>rf _ ha,fun a ha hb=>dg.2.2 a ha a hb rfl⟩
 |t::us,_,_,m+1,u,⟨v,r,f1,f2,h1,h2,h3,h4⟩,hu,nd=>by
  subst h1 h2
  have dg:=ue.mp nd
  obtain ⟨v',f,fw,q1,q2,q3,q4,q5,q6,q7,q8⟩:=aM.erase (m:=m) h4 hu dg.2.1
  refine ⟨v',f,f1++fw,q1,q2,⟨v,_,f1,fw,rfl,rfl,h3,q3⟩,ue.mpr ⟨dg.1,q4,fun a ha b hb e=>dg.2.2 a ha b (q6 b hb) e⟩,q5,fun a ha=>?_,fun a ha=>ff _ (q7 a ha),fun a ha hb=>?_⟩
  ·rcases ij.mp ha with z | z
   ·exact rf _ z
   ·exact ff _ (q6 a z)
  ·rcases ij.mp hb with z | z
   ·exact dg.2.2 a z a (q7 a ha) rfl
   ·exact q8 a ha z
theorem Sg (j j2:Nat){x y:Str}{us ws:List Tr}{d:Dv}{n:Int}{m:Nat}{nE:Expr}{p1 p2 p3 p4 p5 p6:Pos}(hjj:j ≠ j2)(h : ρ[j]?=some (some (.ow us)))(h2 : ρ[j2]?=some (some (.ow ws)))(hn:cF F nE ρ (ti n))(hm:iY ws.length n=some m)(hb : -(2 ^ 62)<=n/\n<2 ^ 62)(hu:ws[m]?=some (.fz d))(hz:us.length<sizeLine)(hN:∀ i,(F.cx i).N[j]?=some x:=by intro _;rfl)(hN2:∀ i,(F.cx i).N[j2]?=some y:=by intro _;rfl)(hv:∀ i,kC (F.cx i).env.scope x:=by intro _;first | exact Or.inl rfl | exact Or.inr (Or.inl rfl) | exact Or.inr (Or.inr rfl))(hv2:∀ i,kC (F.cx i).env.scope y:=by intro _;first | exact Or.inl rfl | exact Or.inr (Or.inl rfl) | exact Or.inr (Or.inr rfl))(hd:(x==("__debug__" : Str))=false:=by decide)(hc:(x==("__classdict__" : Str))=false:=by decide)(hd2:(y==("__debug__" : Str))=false:=by decide)(kN:(y==("__classdict__" : Str))=false:=by decide)(d8:∀ i,attributeBase (.Name x p1) "append" (F.cx i).env (eval (.Name x p1) (F.cx i).env)=eval (.Name x p1) (F.cx i).env:=by intro _;rfl)(Xa:∀ i,attributeBase (.Name y p4) "pop" (F.cx i).env (eval (.Name y p4) (F.cx i).env)=eval (.Name y p4) (F.cx i).env:=by intro _;rfl)(fS:∀ i,((backTo p3 (starEach [.Call (.Attribute (.Name y p4) "pop" p5) [nE] [] p6] (F.cx i).env)).all (fun x=>!x.1)&&(backToKw p3 (keywordEach [] (F.cx i).env)).all (fun x=>x.1.isSome)&&decide (([.Call (.Attribute (.Name y p4) "pop" p5) [nE] [] p6]:List Expr).length+([]:List Keyword).length+(if ([]:List Keyword).isEmpty then 0 else 1)<30))=true:=by intro _;rfl)(X7:∀ i,((backTo p6 (starEach [nE] (F.cx i).env)).all (fun x=>!x.1)&&(backToKw p6 (keywordEach [] (F.cx i).env)).all (fun x=>x.1.isSome)&&decide (([nE]:List Expr).length+([]:List Keyword).length+(if ([]:List Keyword).isEmpty then 0 else 1)<30))=true:=by intro _;rfl)(hline:(p2.endLine==p3.line)=true:=by rfl)(Xb:(p5.endLine==p6.line)=true:=by rfl)(hs:∀ i,starEach [.Call (.Attribute (.Name y p4) "pop" p5) [nE] [] p6] (F.cx i).env=[(false,eval (.Call (.Attribute (.Name y p4) "pop" p5) [nE] [] p6) (F.cx i).env)]:=by intro _;rfl)(fG:∀ i,starEach [nE] (F.cx i).env=[(false,eval nE (F.cx i).env)]:=by intro _;rfl)(gV:∀ i,swapsWith (.Call (.Attribute (.Name x p1) "append" p2) [.Call (.Attribute (.Name y p4) "pop" p5) [nE] [] p6] [] p3) none pos.line (F.cx i).env=pure false:=by intro _;rfl) :
  Rn F (.Expr (.Call (.Attribute (.Name x p1) "append" p2) [.Call (.Attribute (.Name y p4) "pop" p5) [nE] [] p6] [] p3) pos) ρ (.nx ((ρ.set j2 (some (.ow (ws.eraseIdx m)))).set j (some (.ow (us++[.fz d]))))):=by
 obtain ⟨GU,yn,zn⟩:=hn
 refine ⟨fk (eO F.K "list" lC (bD j) (aT (eO F.K "list" Mq (bD j2) (aT GU ck)) ck)),fun i=>eY (F.hK i ▸ gK xy LP LS kf (p7 (hN i) (hv i) hd hc) (au (gK xy PySem.F.slot_list_pop PySem.F.type_list_pop UT (p7 (hN2 i) (hv2 i) hd2 kN) (au (yn i) aV (fG i)) (Xa i) (X7 i) Xb (fG i) rfl) aV (hs i)) (d8 i) (fS i) hline (hs i) rfl) (gV i),fun D σ G0 H0 G H r k=>?_⟩
 obtain ⟨fp,r⟩:=r
 obtain ⟨l0,Gz,GA,c1,c2,_⟩:=r.mut h (.refl r.st.s)
 obtain ⟨l2,vs2,fq2,e1,e2,_⟩:=r.mut h2 (.refl r.st.s)
 refine ⟨_,c1,.inl ⟨rfl,_,aF.of c2⟩,_,e1,.inl ⟨rfl,_,aF.of e2⟩,?_⟩
 refine zn σ G H fp _ r.st.s r.own r.g fun vn G1 H1 f1 s1 o1 w1=>?_
 obtain ⟨l,vs,fq,d1,d2,d3,d4,d5,d6,d7⟩:=r.mut h2 s1
 rw [e1] at d1
 cases d1
 obtain ⟨v,f,fw,g1,g2,g3,g4,g5,g6,g7,g8⟩:=d4.erase hu d5
 obtain ⟨rfl,hv'⟩:=g2
 obtain ⟨ix1,ix2,ix3,ix4⟩:=wZ hm
 refine ⟨l2,vs,n,m,v,rfl,by rw [aB o1.2],d3,by omega,by omega,by rw [<- d4.length];exact ix1,g1,?_⟩
 have r2:=d7 (ws.eraseIdx m) (vs.eraseIdx m) fw g3 g4 fun a ha=>.inl (g6 a ha)
 obtain ⟨fp2,r2⟩:=r2
 have GV:(ρ.set j2 (some (.ow (ws.eraseIdx m))))[j]?=some (some (.ow us)):=by rw [B0 (abc hjj)];exact h
 obtain ⟨l3,Qf,fq3,b1,b2,b3,b4,b5,b6,b7⟩:=r2.mut GV (.refl r2.st.s)
 rw [c1] at b1
 cases b1
 refine ⟨l0,Qf,v,rfl,rfl,b2,by rw [<- b4.length];exact hz,k σ G1 _ ?_⟩
 exact b7 (us++[.fz d]) (Qf++[v]) (fq3++([]++[])) (b4.append (us:=[.fz d]) ⟨v,[],[],[],rfl,rfl,⟨rfl,hv'⟩,rfl,rfl⟩) (by simpa using b5) fun a ha=>.inl (by simpa using ha)
end
theorem uO {xs:List Dv}{k:Nat}{d:Dv}(h:(oK xs)[k]?=some d):∃ x,xs[k]?=some x/\d=.tup [di (k:Nat),x]:=by
 unfold oK at h
 rw [abv] at h
 cases hx:xs[k]? with
 |none =>
  rw [hx] at h
  cases q2:(List.range xs.length)[k]? with
  |none=>rw [q2] at h;cases h
  |some z=>rw [q2] at h;cases h
 |some x =>
  have lj:k<xs.length:=(gz.mp hx).1
  rw [hx,IS lj] at h
  cases h
  exact ⟨x,rfl,rfl⟩
theorem MB {α:Type}(l:List α)(f : α->Int):er (.ow (l.map fun k=>Tr.fz (di (f k))))=dis (l.map f):=by
 show Dv.lst _=Dv.lst _
 rw [pU,qr,qr];rfl
abbrev cU (l:LI):Tr:=.ow (l.map fun n=>.fz (di n))
abbrev kr (L:LL):Tr:=.ow (L.map cU)
theorem pQ (l:LI):er (cU l)=dis l:=by
 show Dv.lst _=_
 rw [pU,qr];rfl
theorem wM (L:LL):er (kr L)=.lst (L.map dis):=by
 show Dv.lst _=_
 rw [pU,qr]
 congr 1
 exact ON fun l _=>pQ l
theorem Dg:∀ L:LL,oH (L.map cU)
 |[] => True.intro
 |l::L=>⟨Lz l,Dg L⟩
theorem U6 (L:LL):gW (.lst (L.map dis))=true:=LN DM L
def kz (c:LI)(os:LL):Dv:=.tup [dis c,.lst (os.map dis)]
structure xT (c:LI) (os:LL):Prop where
 c6:c.length<=6
 cnt:∀ x ∈ c,0<=x/\x<=9
 o1 : 1<=os.length
 o6:os.length<=6
 nd:∀ o ∈ os,o.Nodup
 ic:∀ o ∈ os,∀ x ∈ o,0<=x/\x<c.length
theorem Uk {n:Nat}{l:LI}(nd:l.Nodup)(h:∀ x ∈ l,0<=x/\x<n):l.length<=n:=by
 have sub:l ⊆ (List.range n).map fun k=>((k:Nat):Int):=fun x hx=>by
  obtain ⟨h0,h1⟩:=h x hx
  exact zd.mpr ⟨x.toNat,NO.mpr (by omega),by omega⟩
 have:=nd.length_le_of_subset sub
 simpa using this
theorem xT.Oo {c:LI}{os:LL}(h:xT c os){o:LI}(ho:o ∈ os):o.length<=6:=EM (Uk (h.nd o ho) (h.ic o ho)) h.c6
theorem aX.to {ι:Type}{F:aQ ι}{tg iter:Expr}{ρ:En}{a b:List Dv}(h:aX F tg iter ρ a)(e:a=b):aX F tg iter ρ b:=e ▸ h
theorem JC {α:Type}:∀ {l:List α} {m:Nat} (h:m<l.length),(l[m]::l.eraseIdx m).Perm l
 |x::l,0,_=>.refl _
 |x::l,m+1,h=>by
  have h':m<l.length:=by simpa using h
  show (l[m]::x::l.eraseIdx m).Perm (x::l)
  exact (List.Perm.swap ..).trans ((JC h').cons x)
theorem JX {α β:Type}(f : α->β):∀ (l:List α) (m:Nat),(l.map f).eraseIdx m=(l.eraseIdx m).map f
 |[],_=>rfl
 |_::_,0=>rfl
 |x::l,m+1=>by
  show f x::(l.map f).eraseIdx m=f x::(l.eraseIdx m).map f
  rw [JX f l m]
section
variable {ι:Type}{F:aQ ι}{e a b c:Expr}{es:List Expr}{ρ:En}{t ta cM:Tr}{ts:List Tr}{pos:Pos}
theorem Dh {α β:Type}(q : α->Bool)(h : α->β)(d : β):∀ l:List α,((List.range l.length).filter fun k=>((l[k]?).map q).getD false).map (fun k=>((l[k]?).map h).getD d)=(l.filter q).map h
 |[] => rfl
 |a::l=>by
  have ih:=Dh q h d l
  rw [mf,ab4,abE,abE,List.filter_map]
  show List.map _ (if q a=true then _ else _)=_
  cases q a with
  |true =>
   show h a::((_:List Nat).map Nat.succ).map _=h a::_
   rw [qr,<- ih];rfl
  |false =>
   show ((_:List Nat).map Nat.succ).map _=_
   rw [qr];exact ih
variable {js:List Nat}{sp:Dv->Option (List Dv)}{elt tg iter:Expr}
theorem YL {α:Type}(l:List α)(g : α->Dv)(q : α->Bool)(h : α->Tr){ifs:List Expr}{sc:Scope}{own:List Str}{fr:List Nat}{cl : ι->List (Str×Addr)}(hi:aX F tg iter ρ (l.map g))(hg:iH (cg F own fr sc cl) tg js sp)(jw:∀ j ∈ js,j<own.length)(hz:l.length<sizeLine)(step:∀ a ∈ l,∃ dd,sp (g a)=some dd/\El (cg F own fr sc cl) ifs (aY js (dd.map .fz) (cp own fr ρ)) (q a)/\(q a=true->Ev (cg F own fr sc cl) elt (aY js (dd.map .fz) (cp own fr ρ)) (h a)))(iR:∀ dd:List Dv,ix js (aY js (dd.map .fz) (cp own fr ρ))=cp own fr ρ):eR F own fr sc cl elt tg iter ifs ρ (.ow ((l.filter q).map h)):=by
 have:=yJ (ifs:=ifs) hi hg jw (fun k=>((l[k]?).map q).getD false) (fun k=>((l[k]?).map h).getD tn) (by rw [aa];exact hz) (fun k d hd=>by
  obtain ⟨a,ha,rfl⟩:=iN hd
  obtain ⟨dd,s1,s2,s3⟩:=step a (ma ha)
  refine ⟨dd,s1,?_,?_⟩
  ·show El _ _ _ (((l[k]?).map q).getD false)
   rw [ha];exact s2
  ·show ((l[k]?).map q).getD false=true->Ev _ _ _ (((l[k]?).map h).getD tn)
   rw [ha];exact s3) iR
 rw [aa,Dh] at this
 exact this
theorem lP {α:Type}(l:List α)(g : α->Dv)(h : α->Tr){sc:Scope}{own:List Str}{fr:List Nat}{cl : ι->List (Str×Addr)}(hi:aX F tg iter ρ (l.map g))(hg:iH (cg F own fr sc cl) tg js sp)(jw:∀ j ∈ js,j<own.length)(hz:l.length<sizeLine)(step:∀ a ∈ l,∃ dd,sp (g a)=some dd/\Ev (cg F own fr sc cl) elt (aY js (dd.map .fz) (cp own fr ρ)) (h a))(iR:∀ dd:List Dv,ix js (aY js (dd.map .fz) (cp own fr ρ))=cp own fr ρ):eR F own fr sc cl elt tg iter [] ρ (.ow (l.map h)):=by
 have:=YL l g (fun _=>true) h hi hg jw hz (fun a ha=>let ⟨dd,s1,s2⟩:=step a ha;⟨dd,s1,sL,fun _=>s2⟩) iR
 rwa [abG.mpr fun _ _=>rfl] at this
theorem vi {α:Type}(l:List α)(g : α->Dv)(q : α->Bool)(h : α->Tr){ifs:List Expr}{sc:Scope}{own:List Str}{fr:List Nat}{cl : ι->List (Str×Addr)}(L:∀ i,gy (F.cx i) sc (cl i) fr)(hi:aX F tg iter ρ (l.map g))(hg:iH (cg F own fr sc cl) tg js sp)(jw:∀ j ∈ js,j<own.length)(hz:l.length<sizeLine)(step:∀ a ∈ l,∃ dd,sp (g a)=some dd/\El (cg F own fr sc cl) ifs (aY js (dd.map .fz) (cp own fr ρ)) (q a)/\(q a=true->Ev (cg F own fr sc cl) elt (aY js (dd.map .fz) (cp own fr ρ)) (h a)))(iR:∀ dd:List Dv,ix js (aY js (dd.map .fz) (cp own fr ρ))=cp own fr ρ)(hs:∀ i x,foldedSetIterable iter (F.cx i).env x=pure x:=by intro _ _;rfl):Ev F (.ListComp elt [⟨tg,iter,ifs,0⟩] sc pos) ρ (.ow ((l.filter q).map h)):=by
 have:=X4 (ifs:=ifs) (pos:=pos) L hi hg jw (fun k=>((l[k]?).map q).getD false) (fun k=>((l[k]?).map h).getD tn) (by rw [aa];exact hz) (fun k d hd=>by
  obtain ⟨a,ha,rfl⟩:=iN hd
  obtain ⟨dd,s1,s2,s3⟩:=step a (ma ha)
  refine ⟨dd,s1,?_,?_⟩
  ·show El _ _ _ (((l[k]?).map q).getD false)
   rw [ha];exact s2
  ·show ((l[k]?).map q).getD false=true->Ev _ _ _ (((l[k]?).map h).getD tn)
   rw [ha];exact s3) iR hs
 rw [aa,Dh] at this
 exact this
theorem dh {α:Type}(l:List α)(g : α->Dv)(h : α->Tr){sc:Scope}{own:List Str}{fr:List Nat}{cl : ι->List (Str×Addr)}(L:∀ i,gy (F.cx i) sc (cl i) fr)(hi:aX F tg iter ρ (l.map g))(hg:iH (cg F own fr sc cl) tg js sp)(jw:∀ j ∈ js,j<own.length)(hz:l.length<sizeLine)(step:∀ a ∈ l,∃ dd,sp (g a)=some dd/\Ev (cg F own fr sc cl) elt (aY js (dd.map .fz) (cp own fr ρ)) (h a))(iR:∀ dd:List Dv,ix js (aY js (dd.map .fz) (cp own fr ρ))=cp own fr ρ)(hs:∀ i x,foldedSetIterable iter (F.cx i).env x=pure x:=by intro _ _;rfl):Ev F (.ListComp elt [⟨tg,iter,[],0⟩] sc pos) ρ (.ow (l.map h)):=by
 have:=vi (pos:=pos) l g (fun _=>true) h L hi hg jw hz (fun a ha=>let ⟨dd,s1,s2⟩:=step a ha;⟨dd,s1,sL,fun _=>s2⟩) iR hs
 rwa [abG.mpr fun _ _=>rfl] at this
theorem rX {α:Type}(l:List α)(h : α->Tr):er (.ow (l.map h))=.lst (l.map fun a=>er (h a)):=by
 show Dv.lst (dz _)=_
 rw [pU,qr];rfl
end
section
variable {ι:Type}{F:aQ ι}{e a b c:Expr}{es:List Expr}{ρ:En}{t ta cM:Tr}{ts:List Tr}{pos:Pos}
theorem V2 {q:Bool}(hm:F.mg "int" = none)(ha:Ev F e ρ (tb q)){p':Pos}(hg:∀ i,Gl (F.cx i) "int" := by intro _;rfl)(hs:∀ i,starEach [e] (F.cx i).env=[(false,eval e (F.cx i).env)]:=by intro _;rfl):Ev F (.Call (.Name "int" p') [e] [] pos) ρ (ti (if q then 1 else 0)) :=
 wL (r:=fun xs H Q=>(∃ i,xs=[.int i]/\Q (.int i) H)\/∃ k,xs=[.bl k]/\Q (.int (if k then 1 else 0)) H) (fun i=>T8) hm Mt (ah ha ao hs) (fun G H vs Q s hx k=>by
  obtain ⟨x,rfl,lX⟩:=iU hx
  exact .inr ⟨q,by rw [aB lX],k.sc s rfl⟩) hg (by decide) (by decide) hs (fun _=>rfl)
end
section
variable {ι:Type}{F:aQ ι}{e a b c:Expr}{es:List Expr}{ρ:En}{t ta cM:Tr}{ts:List Tr}{pos:Pos}
theorem Rn.to {st:Stmt}{ρ1 Qg:En}(h:Rn F st ρ (.nx ρ1))(e : ρ1=Qg):Rn F st ρ (.nx Qg):=e ▸ h
end
theorem X8 {X:Cx}{ng:List Str}{nB:List Nat}{av:Scope}{oZ:List (Str×Addr)}{C:Addr}{s:Shared}{H:Hp}{ex:List Addr}{pn:List (Addr×Obj)}{sc:Scope}{fr:List Nat}(N2:List Str)(L:Kp N2 av sc fr)(kI:∀ y,(y,NameKind.free) ∈ av.names->∃ c,oZ.lookup y=some c)(eN:(ng++nB.map fun j=>X.N.getD j "")=N2:=by rfl) :
  gy (bE X ng nB av oZ C s H ex pn) sc (fB (cellsFrom (C+1) av.names oZ) sc.names []) fr:=by
 subst eN
 exact YC L kI
mutual
theorem Ow.agree {K:Frag}{G H H2:Hp}:∀ {t:Tr} {v:V} {fp:List Addr},Ow K G H t v fp->(∀ a ∈ fp,H2 a=H a)->Ow K G H2 t v fp
 | .fz _,_,_,h,_=>h
 | .ow _,_,_,⟨b,vs,fq,h1,h2,h3,h4⟩,n=>by
  subst h4
  exact ⟨b,vs,fq,h1,(n b (.head _)).trans h2,aM.agree h3 fun a z=>n a (.tail _ z),rfl⟩
 | .tp _,_,_,⟨b,vs,fq,h1,h2,h3,h4⟩,n=>by
  subst h4
  exact ⟨b,vs,fq,h1,(n b (.head _)).trans h2,aM.agree h3 fun a z=>n a (.tail _ z),rfl⟩
theorem aM.agree {K:Frag}{G H H2:Hp}:∀ {ts:List Tr} {vs:List V} {fp:List Addr},aM K G H ts vs fp->(∀ a ∈ fp,H2 a=H a)->aM K G H2 ts vs fp
 |[],_,_,h,_=>h
 |_::_,_,_,⟨v,r,f1,f2,h1,h2,h3,h4⟩,n=>by
  subst h2
  exact ⟨v,r,f1,f2,h1,rfl,h3.agree fun a z=>n a (rf _ z),aM.agree h4 fun a z=>n a (ff _ z)⟩
end
theorem aJ.agree {K:Frag}{G H H2:Hp}:∀ {ρ:En} {σ:St} {fp:List Addr},aJ K G H ρ σ fp->(∀ a ∈ fp,H2 a=H a)->aJ K G H2 ρ σ fp
 |[],_,_,h,_=>h
 |none::_,_,_,⟨o,r,h1,h2⟩,n=>⟨o,r,h1,aJ.agree h2 n⟩
 |some _::_,_,_,⟨v,r,f1,f2,h1,h2,h3,h4⟩,n=>by
  subst h2
  exact ⟨v,r,f1,f2,h1,rfl,h3.agree fun a z=>n a (rf _ z),aJ.agree h4 fun a z=>n a (ff _ z)⟩
theorem aJ.tE {K:Frag}{G H:Hp}{u:Option V}:∀ {ρ:En} {σ:St} {fp:List Addr} {y:Nat},aJ K G H ρ σ fp->ρ[y]?=some none->aJ K G H ρ (σ.set y u) fp
 |none::_,_,_,0,⟨o,r,h1,h2⟩,_=>by subst h1;exact ⟨u,r,rfl,h2⟩
 |none::_,_,_,y+1,⟨o,r,h1,h2⟩,h=>by subst h1;exact ⟨o,_,rfl,aJ.tE (y:=y) h2 h⟩
 |some _::_,_,_,0,_,h=>by cases h
 |some _::_,_,_,y+1,⟨v,r,f1,f2,h1,h2,h3,h4⟩,h=>by subst h1;exact ⟨v,_,f1,f2,rfl,h2,h3,aJ.tE (y:=y) h4 h⟩
theorem RS.tE {K:Frag}{G0 H0 G H:Hp}{ρ:En}{σ:St}{y:Nat}{u:Option V}(r:RS K G0 H0 G H ρ σ)(h : ρ[y]?=some none):RS K G0 H0 G H ρ (σ.set y u):=by
 obtain ⟨fp,r⟩:=r
 exact ⟨fp,r.st,r.own.tE h,r.g,r.n,r.d⟩
end L2
namespace L2
open PySem PySem.Spec PyProof.Rows
theorem Ni {ι:Type}{F:aQ ι}{e:Expr}{ρ:En}{t:Tr}{σ:St}{G H:Hp}{Q:VK}(h:Ev F e ρ t)(s:ai G H)(r:bH F.K G ρ σ)(k:Kv F.K G H t Q):uE F e σ H Q:=let ⟨τ,x,y⟩:=h;⟨τ,x,y σ G H Q s r k⟩
section
variable {ι:Type}{F:aQ ι}{ρ:En}{t:Tr}{c:Expr}{A bh:List Stmt}{pos:Pos}
theorem kh {p:Bool}(hc:cG F c ρ p)(h1:p=true->cz F A ρ (.rt t))(h2:p=false->cz F bh ρ (.rt t)):cz F (.If c A [] pos::bh) ρ (.rt t):=by
 cases p with
 |true=>exact uM (oq hc rfl (h1 rfl))
 |false=>exact aE (cA hc rfl) (h2 rfl)
end
section
variable {ι:Type}{F:aQ ι}{ρ:En}{tg iter:Expr}{body bh:List Stmt}{pos:Pos}{its:List Dv}{js:List Nat}{sp:Dv->Option (List Dv)}{o:Out}
theorem KA (hi:vD F tg iter ρ its)(hg:iH F tg js sp)(inv:Nat->En)(m:Nat)(hm:m<=its.length)(h0:inv 0=ρ)(hlen:∀ k,js.all (fun j=>Nat.blt j (inv k).length)=true)(step:∀ k d,k<m->its[k]?=some d->∃ dd jv,sp d=some dd/\cz F body (aY js (dd.map .fz) (inv k)) (.nx jv)/\Fg jv (inv (k+1)))(fin:(m=its.length/\cz F bh (inv m) o)\/∃ d dd t,its[m]?=some d/\sp d=some dd/\cz F body (aY js (dd.map .fz) (inv m)) (.rt t)/\o=.rt t)(hx:∀ i,(F.cx i).xe=cy:=by intro _;rfl)(hs:∀ i x,foldedSetIterable iter (F.cx i).env x=pure x:=by intro _ _;rfl):cz F (.For tg iter body [] pos::bh) ρ o:=by
 rcases fin with ⟨h1,h2⟩ | ⟨d,dd,t,h1,h2,h3,rfl⟩
 ·exact aE (BR hi hg inv m hm h0 hlen step (.inl ⟨h1,rfl⟩) hx hs) h2
 ·exact uM (BR hi hg inv m hm h0 hlen step (.inr ⟨d,dd,t,h1,h2,h3,rfl⟩) hx hs)
end
section
variable {X:Cx}
def xm:V->List V->Hp->VK->Prop:=fun x vs H Q=>∃ l xs i y,x=.ref l/\vs=[.int i,y]/\H l=some (.lst xs)/\0<=i/\i<=xs.length/\xs.length<1000/\Q .aN (upd H l (.lst (xs.take i.toNat++y::xs.drop i.toNat)))
theorem JY:nu X "list.insert" xm:=by
 intro pins s σ H x vs v us Q I rx rv h
 obtain ⟨l,xs,i,y,rfl,rfl,hH,h0,h1,hz,q⟩:=h
 cases rx
 cases rv with
 |cons r1 rr =>
  cases rr with
  |cons r2 rr =>
   cases rr
   obtain ⟨t,rfl⟩:=r1
   rename_i u
   obtain ⟨z,its,n,r,hl,e⟩:=I.td hH
   have big : 1000<sizeLine:=by decide
   have hf:Builtin.List.listFitsIndex i=true:=fitsIndex_both (by omega) (by omega)
   refine abI abM ⟨_,e,rfl⟩ PySem.F.entry_list_insert (PySem.F.args_list_insert_3 _ _ _)
    (AutoSeq1.list_insert_list_int_val_1 l its.toArray n i t u (by rw [hf];decide) (by rw [i8];omega)) ⟨e,?_⟩
   refine ⟨.aN,_,I.vA (its':=its.take i.toNat++u::its.drop i.toNat) hH e ?_ ?_ ?_,rfl,q⟩
   ·show (its.toArray.extract 0 (if i<0 then (i+(its.toArray.size:Int)).toNat else min i.toNat its.toArray.size)).push u++its.toArray.extract (if i<0 then (i+(its.toArray.size:Int)).toNat else min i.toNat its.toArray.size)=_
    rw [AM (by omega),i8,acU (by omega)]
    apply Array.toList_inj.mp
    simp
    exact Lm (by rw [EO];omega)
   ·exact (r.take _).append (.cons r2 (r.drop _))
   ·rw [ir,mf,DO,EO];omega
end
section
variable {ι:Type}{F:aQ ι}{e a b c:Expr}{ρ:En}{t ta cM:Tr}{pos:Pos}
theorem MC {u v:V}(ha:Ev F a ρ (.fz (.fl u)))(hb:Ev F b ρ (.fz (.fl v)))(hs:sY u v=true):Et F (.Compare a [.Eq] [b] pos) ρ (decide (u=v)) :=
 mM (fun _=>Eu) ha hb (fun G H x y Q s hx hy k=>by rw [aB hx,aB hy];exact ⟨hs,k⟩) (iO _)
end
theorem cG.to {ι:Type}{F:aQ ι}{e:Expr}{ρ:En}{p q:Bool}(h:cG F e ρ p)(z:p=q):cG F e ρ q:=z ▸ h
structure vZ (ι:Type) where
 i : ι
 XE:Value->Shared->Prop
 pn:List (Addr×Obj)
def oM {ι:Type}(F:aQ ι):aQ (vZ ι) where
 cx i:=(F.cx i.i).jU i.XE i.pn
 P:=F.P
 w:=F.w
 K:=F.K
 mg:=F.mg
 base:=F.base
 room:=F.room
 hP i:=F.hP i.i
 hw i:=F.hw i.i
 hK i:=F.hK i.i
 hm i:=F.hm i.i
 hb i:=F.hb i.i
 hr i:=F.hr i.i
 calm i:=F.calm i.i
structure GW (K:Frag) (mg:Str->Option Value) (x:Str) (D:Addr):Prop where
 g:mg x=some (.ref D)
 t:typeIn K (.ref D)=some (.type "type")
 i:isClsIn K D=true
 e:subIn K (.ref D) (.type "BaseException")=some true
section
variable {ι:Type}{F:aQ ι}{ρ ρ':En}{D:Addr}{i:Nat}{n x:Str}{np hpos pos:Pos}{body suite:List Stmt}{b₀:Stmt}
theorem Ul (c:GW F.K F.mg x D)(i:Nat)(hb:cz (oM F) body ρ (.nx ρ'))(hN:∀ q,(F.cx q).N.Nodup)(hi:∀ q,(F.cx q).N[i]?=some n:=by intro _;rfl)(hl:∀ q,(F.cx q).env.scope.names.lookup n=some .local:=by intro _;rfl)(dQ:∀ q,∃ outer,(F.cx q).stack=(F.cx q).env::outer:=by intro _;exact ⟨_,rfl⟩)(eB:∀ q,∃ L,(F.cx q).env.frame=some L:=by intro _;exact ⟨_,rfl⟩)(hex:∀ q,(F.cx q).ex=[]:=by intro _;rfl)(hg:∀ q,Gl (F.cx q) x:=by intro _;rfl)(hdb:(x==("__debug__" : Str))=false:=by decide) :
  Rn F (.Try body [.ExceptHandler (some (.Name x np)) (some n) (b₀::suite) hpos] [] [] pos) ρ (.nx ρ'):=by
 obtain ⟨τ,y,z⟩:=hb
 refine ⟨N9 F.K D i (fun _=>τ) iy,fun q=>?_,z⟩
 obtain ⟨outer,dQ⟩:=dQ q
 obtain ⟨L,eB⟩:=eB q
 have:=W2 (X:=F.cx q) (D:=D) (i:=i) (n:=n) (x:=x) (np:=np) (hpos:=hpos) (pos:=pos) (body:=body) (suite:=suite) (b₀:=b₀) (tb:=fun _=>τ) (th:=iy) (hN q) (hi q) (hl q) dQ eB (hex q) (hg q) (by rw [F.hm q];exact c.g) (by rw [F.hK q];exact c.t) (by rw [F.hK q];exact c.i) (by rw [F.hK q];exact c.e) (fun E XE pn _=>y ⟨q,XE,pn⟩) (fun v=>iZ) hdb
 rw [F.hK q] at this
 exact this
end
end L2
namespace L2
open PySem
def i6 (M:Model)(Γ:Ctx)(p:Pos)(s:Shared)(e:End)(s':Shared)(g:Nat)(r:Resume)(k:GenResult->Sem Fin):Prop :=
 match s.gens[g]? with
  |none=>False
  |some (.fresh c)=>(match r with
   | .send .none=>∃ e1 s1,Runs M (Γ.wake c p) p (M.den c) [] (s.setGen g .running) e1 s1/\Runs M Γ p (k e1.result) [] (s1.setGen g e1.genState) e s'
   | .send _=>Runs M Γ p (k .justStarted) [] s e s'
   | .throw x=>Runs M Γ p (k (.raised x)) [] (s.setGen g .finished) e s')
  |some (.suspended k0 _ c0 p0 fs _)=>∃ e1 s1,Runs M (Γ.wake c0 p) p0 (k0 r) fs (s.setGen g .running) e1 s1/\Runs M Γ p (k e1.result) [] (s1.setGen g e1.genState) e s'
  |some .running=>Runs M Γ p (k .running) [] s e s'
  |some .finished=>Runs M Γ p (k .finished) [] s e s'
def jg (M:Model)(Γ:Ctx)(p:Pos)(s:Shared)(e:End)(s':Shared):Sem Fin->Prop
 | .pure (.done f)=>e=.ret (.ok f)/\s'=s
 | .pure (.again c)=>Runs M (Γ.goto c) p (M.den c) [] s e s'
 | .raise x=>e=.ret (.error x)/\s'=s
 | .rule _ k=>Runs M Γ p (k ()) [] s e s'
 | .at p' k=>Runs M Γ p' (k ()) [] s e s'
 | .load a _ k=>∃ o,s.heap.get? a=some o/\Runs M Γ p (k o) [] s e s'
 | .update a _ f k=>Runs M Γ p (k ()) [] { s with heap:=s.heap.update a f } e s'
 | .loadIfAlive a k=>Runs M Γ p (k (s.heap.get? a)) [] s e s'
 | .point _ k=>Runs M Γ p (k ()) [] s e s'
 | .alloc o k=>Runs M Γ p (k s.heap.objs.size) [] { s with heap:=s.heap.push o } e s'
 | .fresh k=>Runs M Γ p (k s.toks) [] { s with toks:=s.toks+1 } e s'
 | .ask k=>Runs M Γ p (k ⟨M.prog,M.w.params⟩) [] s e s'
 | .choose src n k=>Runs M Γ p (k (M.w.draws src (s.drawn.get src) % n)) [] { s with drawn:=s.drawn.bump src } e s'
 | .os q _ k=>Runs M Γ p (k (Os.step s.os q).2) [] { s with os:=(Os.step s.os q).1 } e s'
 | .handled own k=>Runs M Γ p (k (if own then Γ.own else Γ.handled)) [] s e s'
 | .genState g k=>∃ st,s.gens[g]?=some st/\Runs M Γ p (k st.seen) [] s e s'
 | .stack k=>Runs M Γ p (k ((Γ.code,p)::Γ.below)) [] s e s'
 | .thread k=>Runs M Γ p (k 0) [] s e s'
 | .newGen c k=>Runs M Γ p (k s.gens.size) [] { s with gens:=s.gens.push (.fresh c) } e s'
 | .call c h g l k=>∃ e1 s1,Runs M (Γ.enter c h p) p (M.den c) [] s e1 s1/\(match e1 with
   | .ret r=>Runs M Γ p (k r) [] s1 e s'
   | .susp v g0 l0 k0 c0 p0 fs=>e=.susp v g0 l0 k0 c0 p0 (fs++[.ret k h g l Γ.code p []])/\s'=s1)
 | .yield v g l k=>e=.susp v g l k Γ.code p []/\s'=s
 | .resume g r _ k=>i6 M Γ p s e s' g r k
 |_=>False
def Inv1 (M:Model)(Γ:Ctx)(p:Pos)(t:Sem Fin)(F:Frame)(fs:List Frame)(s:Shared)(e:End)(s':Shared):Prop :=
 ∃ e1 s1,Runs M (Γ.over (F::fs)) p t [] s e1 s1/\(match e1 with
  | .ret r=>(match F with
   | .ret k _ _ _ c1 p1 _=>Runs M (Γ.goto c1) p1 (k r) fs s1 e s'
   | .gen g k _ c1 p1=>Runs M (Γ.goto c1) p1 (k (End.ret r).result) fs (s1.setGen g .finished) e s')
  | .susp v g0 l0 k0 c0 p0 Qh=>(match splitAtGen (F::fs) with
   |none=>e=.susp v g0 l0 k0 c0 p0 (Qh++F::fs)/\s'=s1
   |some (pre,(g,k,c1,p1),rest)=>Runs M (Γ.goto c1) p1 (k (.yielded v)) rest (s1.setGen g (End.susp v g0 l0 k0 c0 p0 (Qh++pre)).genState) e s'))
def jh (M:Model)(Γ:Ctx)(p:Pos)(t:Sem Fin)(fs:List Frame)(s:Shared)(e:End)(s':Shared):Prop :=
 match fs with
 |[] => jg M Γ p s e s' t
 |F::fs=>Inv1 M Γ p t F fs s e s'
theorem cP {M:Model}{Γ:Ctx}{p:Pos}{t:Sem Fin}{fs:List Frame}{s:Shared}{e:End}{s':Shared}(h:Runs M Γ p t fs s e s'):jh M Γ p t fs s e s':=by
 cases h with
 |done=>exact ⟨rfl,rfl⟩
 |raise=>exact ⟨rfl,rfl⟩
 |again _ h=>exact h
 |rule h=>exact h
 | «at» h=>exact h
 |load ho h=>exact ⟨_,ho,h⟩
 |update _ h=>exact h
 |loadIfAlive h=>exact h
 |point h=>exact h
 |alloc h=>exact h
 |fresh h=>exact h
 |ask h=>exact h
 |choose _ h=>exact h
 |os h=>exact h
 |handled h=>exact h
 |genState ho h=>exact ⟨_,ho,h⟩
 |stack h=>exact h
 |thread h=>exact h
 |newGen h=>exact h
 |call h1 h2=>exact ⟨_,_,h1,h2⟩
 |callSusp h1=>exact ⟨_,_,h1,rfl,rfl⟩
 |yield=>exact ⟨rfl,rfl⟩
 |resumeFresh h1 h2 _ h4=>dsimp only [jh,jg,i6];rw [h1];exact ⟨_,_,h2,h4⟩
 |resumeSuspended h1 h2 _ h4=>dsimp only [jh,jg,i6];rw [h1];exact ⟨_,_,h2,h4⟩
 |resumeJustStarted h1 h2 h3 =>
  dsimp only [jh,jg,i6]
  rw [h1]
  dsimp only
  split
  ·rename_i z
   first | exact absurd (by injection z) h2 | exact absurd rfl h2
  ·exact h3
  ·rename_i z;cases z
 |resumeThrowFresh h1 h2=>dsimp only [jh,jg,i6];rw [h1];exact h2
 |resumeRunning h1 h2=>dsimp only [jh,jg,i6];rw [h1];exact h2
 |resumeFinished h1 h2=>dsimp only [jh,jg,i6];rw [h1];exact h2
 |segRet h1 h2=>exact ⟨_,_,h1,h2⟩
 |segGen h1 h2=>exact ⟨_,_,h1,h2⟩
 |segSuspOut h0 h1=>exact ⟨_,_,h1,by rw [h0];exact ⟨rfl,rfl⟩⟩
 |segSuspGen h0 h1 _ h2=>exact ⟨_,_,h1,by rw [h0];exact h2⟩
theorem Di {M:Model}{Γ:Ctx}{p:Pos}{t:Sem Fin}{fs:List Frame}{s:Shared}{e:End}{s':Shared}(h:Runs M Γ p t fs s e s'):∀ {e2:End} {s2:Shared},Runs M Γ p t fs s e2 s2->e=e2/\s'=s2:=by
 induction h with
 |done=>intro e2 s2 g;obtain ⟨rfl,rfl⟩:=cP g;exact ⟨rfl,rfl⟩
 |raise=>intro e2 s2 g;obtain ⟨rfl,rfl⟩:=cP g;exact ⟨rfl,rfl⟩
 |again _ _ ih=>intro e2 s2 g;exact ih (cP g)
 |rule _ ih=>intro e2 s2 g;exact ih (cP g)
 | «at» _ ih=>intro e2 s2 g;exact ih (cP g)
 |load ho _ ih=>intro e2 s2 g;obtain ⟨o,h1,g⟩:=cP g;rw [ho] at h1;cases h1;exact ih g
 |update _ _ ih=>intro e2 s2 g;exact ih (cP g)
 |loadIfAlive _ ih=>intro e2 s2 g;exact ih (cP g)
 |point _ ih=>intro e2 s2 g;exact ih (cP g)
 |alloc _ ih=>intro e2 s2 g;exact ih (cP g)
 |fresh _ ih=>intro e2 s2 g;exact ih (cP g)
 |ask _ ih=>intro e2 s2 g;exact ih (cP g)
 |choose _ _ ih=>intro e2 s2 g;exact ih (cP g)
 |os _ ih=>intro e2 s2 g;exact ih (cP g)
 |handled _ ih=>intro e2 s2 g;exact ih (cP g)
 |genState ho _ ih=>intro e2 s2 g;obtain ⟨o,h1,g⟩:=cP g;rw [ho] at h1;cases h1;exact ih g
 |stack _ ih=>intro e2 s2 g;exact ih (cP g)
 |thread _ ih=>intro e2 s2 g;exact ih (cP g)
 |newGen _ ih=>intro e2 s2 g;exact ih (cP g)
 |call _ _ iJ kO =>
  intro e2 s2 g
  obtain ⟨e1,s1,g1,g2⟩:=cP g
  obtain ⟨a,b⟩:=iJ g1
  subst a
  subst b
  exact kO g2
 |callSusp _ iJ =>
  intro e2 s2 g
  obtain ⟨e1,s1,g1,g2⟩:=cP g
  obtain ⟨a,b⟩:=iJ g1
  subst a
  subst b
  exact ⟨g2.1.symm,g2.2.symm⟩
 |yield=>intro e2 s2 g;obtain ⟨rfl,rfl⟩:=cP g;exact ⟨rfl,rfl⟩
 |resumeFresh h1 _ h3 _ iJ kO =>
  intro e2 s2 g
  have g:=cP g
  dsimp only [jh,jg,i6] at g
  rw [h1] at g
  obtain ⟨e1,s1,g1,g2⟩:=g
  obtain ⟨a,b⟩:=iJ g1
  subst a
  subst b
  exact kO g2
 |resumeSuspended h1 _ h3 _ iJ kO =>
  intro e2 s2 g
  have g:=cP g
  dsimp only [jh,jg,i6] at g
  rw [h1] at g
  obtain ⟨e1,s1,g1,g2⟩:=g
  obtain ⟨a,b⟩:=iJ g1
  subst a
  subst b
  exact kO g2
 |resumeJustStarted h1 h2 _ ih =>
  intro e2 s2 g
  have g:=cP g
  dsimp only [jh,jg,i6] at g
  rw [h1] at g
  dsimp only at g
  split at g
  ·rename_i z
   first | exact absurd (by injection z) h2 | exact absurd rfl h2
  ·exact ih g
  ·rename_i z;cases z
 |resumeThrowFresh h1 _ ih =>
  intro e2 s2 g
  have g:=cP g
  dsimp only [jh,jg,i6] at g
  rw [h1] at g
  exact ih g
 |resumeRunning h1 _ ih =>
  intro e2 s2 g
  have g:=cP g
  dsimp only [jh,jg,i6] at g
  rw [h1] at g
  exact ih g
 |resumeFinished h1 _ ih =>
  intro e2 s2 g
  have g:=cP g
  dsimp only [jh,jg,i6] at g
  rw [h1] at g
  exact ih g
 |segRet _ _ iJ kO =>
  intro e2 s2 g
  obtain ⟨e1,s1,g1,g2⟩:=cP g
  obtain ⟨a,b⟩:=iJ g1
  subst a
  subst b
  exact kO g2
 |segGen _ _ iJ kO =>
  intro e2 s2 g
  obtain ⟨e1,s1,g1,g2⟩:=cP g
  obtain ⟨a,b⟩:=iJ g1
  subst a
  subst b
  exact kO g2
 |segSuspOut h1 _ iJ =>
  intro e2 s2 g
  obtain ⟨e1,s1,g1,g2⟩:=cP g
  obtain ⟨a,b⟩:=iJ g1
  subst a
  subst b
  dsimp only at g2
  rw [h1] at g2
  exact ⟨g2.1.symm,g2.2.symm⟩
 |segSuspGen h1 _ _ _ iJ kO =>
  intro e2 s2 g
  obtain ⟨e1,s1,g1,g2⟩:=cP g
  obtain ⟨a,b⟩:=iJ g1
  subst a
  subst b
  dsimp only at g2
  rw [h1] at g2
  exact kO g2
theorem Um {M:Model}{Γ:Ctx}{p:Pos}{g:Nat}{r:Resume}{s:Shared}{a b:GenResult}{s1 s2:Shared}(h:Wakes M Γ p g r s a s1)(h':Wakes M Γ p g r s b s2):a=b/\s1=s2:=by
 unfold Wakes at h h'
 split at h
 ·exact h.elim
 ·rename_i c hc
  simp only [hc] at h'
  split at h
  ·obtain ⟨e,t,x1,_,rfl,rfl⟩:=h
   obtain ⟨e',t',y1,_,rfl,rfl⟩:=h'
   obtain ⟨rfl,rfl⟩:=Di x1 y1
   exact ⟨rfl,rfl⟩
  ·rename_i hn
   split at h'
   ·rename_i q
    first | exact (hn (by injection q)).elim | exact (hn rfl).elim | (cases q;exact (hn rfl).elim)
   ·exact ⟨h.1.trans h'.1.symm,h.2.trans h'.2.symm⟩
   ·rename_i q;cases q
  ·exact ⟨h.1.trans h'.1.symm,h.2.trans h'.2.symm⟩
 ·rename_i hc
  simp only [hc] at h'
  obtain ⟨e,t,x1,_,rfl,rfl⟩:=h
  obtain ⟨e',t',y1,_,rfl,rfl⟩:=h'
  obtain ⟨rfl,rfl⟩:=Di x1 y1
  exact ⟨rfl,rfl⟩
 ·rename_i hc
  simp only [hc] at h'
  exact ⟨h.1.trans h'.1.symm,h.2.trans h'.2.symm⟩
 ·rename_i hc
  simp only [hc] at h'
  exact ⟨h.1.trans h'.1.symm,h.2.trans h'.2.symm⟩
theorem Xc {α:Type}{M:Model}{Γ:Ctx}{Q Q' : α->Pos->Shared->Prop}{E E':Value->Pos->Shared->Prop}(t:Sem α):∀ {p:Pos} {s:Shared},Sem.wp M Γ t Q E p s->Sem.wp M Γ t Q' E' p s ->
  Sem.wp M Γ t (fun a p s=>Q a p s/\Q' a p s) (fun e p s=>E e p s/\E' e p s) p s:=by
 induction t with
 |pure a=>intro p s h h';exact ⟨h,h'⟩
 |raise e=>intro p s h h';exact ⟨h,h'⟩
 |unsupported _=>intro p s h h';exact h
 |finish _=>intro p s h h';exact h
 |rule _ k ih=>intro p s h h';exact ih _ h h'
 | «at» _ k ih=>intro p s h h';exact ih _ h h'
 |load a _ k ih=>rintro p s ⟨o,x,h⟩ ⟨o',x',h'⟩;rw [x] at x';cases x';exact ⟨o,x,ih _ h h'⟩
 |update a _ f k ih=>rintro p s ⟨x,h⟩ ⟨_,h'⟩;exact ⟨x,ih _ h h'⟩
 |loadIfAlive a k ih=>intro p s h h';exact ih _ h h'
 |point _ k ih=>intro p s h h';exact ih _ h h'
 |register _ _=>intro p s h h';exact h
 |alloc o k ih=>intro p s h h';exact ih _ h h'
 |fresh k ih=>intro p s h h';exact ih _ h h'
 |ask k ih=>intro p s h h';exact ih _ h h'
 |choose src n k ih=>rintro p s ⟨x,h⟩ ⟨_,h'⟩;exact ⟨x,ih _ h h'⟩
 |os q _ k ih=>intro p s h h';exact ih _ h h'
 |call c h0 _ _ k ih =>
  rintro p s ⟨r,s1,x,h⟩ ⟨r',yO,x',h'⟩
  obtain ⟨a,b⟩:=Di x x'
  cases a
  subst b
  exact ⟨r,s1,x,ih _ h h'⟩
 |handled own k ih=>intro p s h h';exact ih _ h h'
 |genState g k ih=>rintro p s ⟨o,x,h⟩ ⟨o',x',h'⟩;rw [x] at x';cases x';exact ⟨o,x,ih _ h h'⟩
 |newGen c k ih=>intro p s h h';exact ih _ h h'
 |resume g r _ k ih =>
  rintro p s ⟨a,s1,x,h⟩ ⟨b,s2,x',h'⟩
  obtain ⟨rfl,rfl⟩:=Um x x'
  exact ⟨a,s1,x,ih _ h h'⟩
 |yield=>intro p s h h';exact h
 |stack k ih=>intro p s h h';exact ih _ h h'
 |fork=>intro p s h h';exact h
 |thread k ih=>intro p s h h';exact ih _ h h'
 |await=>intro p s h h';exact h
theorem two {α:Type}{M:Model}{A:Around}{t:Sem α}{Q Q' R : α->Shared->Prop}{E E':Value->Shared->Prop}{s:Shared}(h:wpAny M A t Q E s)(h':wpAny M A t Q' E' s)(k:∀ a s,Q a s->Q' a s->R a s):wpAny M A t R E s :=
 fun Γ p g=>Sem.wp_mono M Γ t (fun a _ s z=>k a s z.1 z.2) (fun e _ s z=>z.1) p s (Xc t (h Γ p g) (h' Γ p g))
theorem Uo (f:Array Value->Array Value)(o:Obj):(Obj.mapFields f o).dict=o.dict:=by
 unfold Obj.mapFields
 repeat' split
 all_goals rfl
def gv (h:Heap)(e:Addr)(d:Option Addr):Prop:=∃ o vs T oT ts,h.get? e=some o/\o.data=.fields vs/\(o.dict=d/\vs[2]?=some .none)/\vs[1]?=some (.ref T)/\T ≠ e/\h.get? T=some oT/\oT.data=.fields ts/\3<ts.size
section
variable {M:Model}{A:Around}{E:Value->Shared->Prop}{s:Shared}{e:Addr}{dx:Option Addr}
theorem rY (h:gv s.heap e dx):wpAny M A (setFlight (.ref e) none) (fun _ s'=>gv s'.heap e dx) E s:=by
 obtain ⟨o,vs,T,oT,ts,he,hd,hx,h1,ne,hT,fI,hz⟩:=h
 unfold setFlight
 refine ba (WE he hd h1 ?_)
 rw [Cn (by simp)]
 refine acg hT fI hz ?_
 refine ⟨o,vs,T,_,_,(Ll _ _ ne).trans he,hd,hx,h1,ne,NL _ hT (acj (VT fI _)),VT fI _,by simpa using hz⟩
theorem KC {base:Heap}{env:Env}{outer:List Env}{L:Addr}{o:Obj}{vs:Array Value}{head:Value}{b:Bool}(eB:A.frames=some (env::outer))(hl:s.heap.FunFrames base (env::outer))(hf:env.frame=some L)(he:s.heap.get? e=some o)(hd:o.data=.fields vs)(hz : 1<vs.size)(hx:o.dict=dx)(h2:vs[2]?=some .none) :
  wpAny M A (do setField (.ref e) 1 (<- EntryCells.newEntry head (<- frameOf env) .none (rawInt L) .none (<- entryPlaceOf L b))) (fun _ s'=>gv s'.heap e dx) E s:=by
 have nf:e ∉ (env::outer).filterMap (·.frame):=fun hm=>by
  obtain ⟨_,u,hu,nn⟩:=hl.mem hm
  rw [he] at hu
  cases hu
  exact nn vs hd
 refine ba (wpAny_frameOf_fun eB hl hf fun h1 q1=>?_)
 refine ba (wpAny_entryPlaceOf fun pl hp=>?_)
 unfold EntryCells.newEntry newFields
 refine ba (Sk ?_ (hp.sizeOk5 _ _ _ _ _))
 have e1:h1.get? e=some o:=(q1.2.1 e nf).trans he
 have e2:=fun z=>gc (h:=h1) z e1
 refine acg (e2 _) hd hz ?_
 have ne:h1.objs.size ≠ e:=Nl (lp e1)
 have d3:=VT hd (·.setIfInBounds 1 (Value.ref h1.objs.size))
 refine ⟨_,_,h1.objs.size,_,_,NL _ (e2 _) (acj d3),d3,⟨(Uo _ _).trans hx,by rw [Array.getElem?_setIfInBounds_ne (by decide)];exact h2⟩,by simp [hz],ne,(Ll _ _ (abc ne)).trans (ze h1 rfl),rfl,?_⟩
 simp only [i8,ir,mf,List.length_nil]
 omega
theorem JD {base:Heap}{env:Env}{outer:List Env}{L:Addr}{o:Obj}{vs:Array Value}(eB:A.frames=some (env::outer))(hl:s.heap.FunFrames base (env::outer))(hf:env.frame=some L)(he:s.heap.get? e=some o)(hd:o.data=.fields vs)(h1:vs[1]?=some .none)(hx:o.dict=dx)(h2:vs[2]?=some .none) :
  wpAny M A (noteFrame (.ref e) env) (fun _ s'=>gv s'.heap e dx) E s:=by
 unfold noteFrame
 simp only [hf]
 refine ba (WE he hd h1 ?_)
 rw [AM (by decide)]
 exact KC eB hl hf he hd (OF.mp h1).1 hx h2
theorem Cy {base:Heap}{env:Env}{outer:List Env}{L:Addr}{C a0:Value}(eB:A.frames=some (env::outer))(hf:env.frame=some L)(hw:Heap.FlyingW base (env::outer) e C a0 s.heap)(hx:gv s.heap e dx) :
  wpAny M A (noteFrame (.ref e) env) (fun _ s'=>gv s'.heap e dx) E s:=by
 obtain ⟨f1,f2,f3,oe,vs,T,oT,ts,he,_,hd,h1,tX,ne,hT,fI,h3⟩:=hw
 obtain ⟨o',vs',_,_,_,v7,kD,⟨hx,h2⟩,_⟩:=hx
 rw [he] at v7
 cases v7
 rw [hd] at kD
 cases kD
 unfold noteFrame
 simp only [hf]
 refine ba (WE he hd h1 ?_)
 rw [Cn (by simp)]
 refine ba (WE hT fI h3 ?_)
 rw [AM (show ¬ ((Value.none==rawInt L)=true) from by simp [rawInt])]
 refine ba (acg hT fI (OF.mp h3).1 ?_)
 have Qi:∀ b,b ≠ T->(s.heap.update T (Obj.mapFields (·.setIfInBounds 3 Value.none))).get? b=s.heap.get? b:=fun b hb=>Ll _ _ (abc hb)
 refine KC (base:=base) eB (f3.of_keeps fun b o hb hn=>⟨o,(Qi b fun q=>?_).trans hb,rfl⟩) hf ((Qi e (abc ne)).trans he) hd (OF.mp h1).1 hx h2
 rw [q,hT] at hb
 cases hb
 exact hn ts fI
end
abbrev oN (xs:List Value):Obj:={ cls:=.type "tuple",data:=.seq xs.toArray }
abbrev jY (C t:Addr):Obj:={ cls:=.ref C,data:=.fields #[.ref t,.none,.none,.none,.bool false,.none] }
section
variable {prog:Program}{w:World}{A:Around}{E:Value->Shared->Prop}{h:Heap}{g:Array GenState}{d:Drawn}{t:Nat}{os:OsState}
variable {nm q:Str}{C N:Addr}{bs bm vT:List Value}{hdct:Bool}{sn:List Str}{sub:List Value}{ab:Bool}{col:Option Bool}{dd:Option Addr}{k0 k1 k2 k3 k5:Option Value}{B newId Xd:String}
theorem Up (F:ExcBaseFacts B newId Xd vT)(T:OwnTail h vT bm){xs:List Value}{f:Addr}{Q:Value->Shared->Prop}(hC:h.get? C=some (excClassObj nm q C N bs bm hdct sn sub ab col dd k0 k1 k2 k3 k5 newId))(hi:Looks (model prog w) h (typeLookup (.ref C) "__init__") (some (.ref f)))(hf:Looks (model prog w) h (typeOf (.ref f)) (.type "function"))(hl:xs.length<=sizeLine)(k:wpAny (model prog w) (A.under (.builtin "type.__call__" ⟨.ref C::xs,[]⟩)) (call (.ref f) (.ref (h.objs.size+1)::xs)) (fun r s'=>r=.none/\Q (.ref (h.objs.size+1)) s') E ⟨(h.push (oN xs)).push (jY C h.objs.size),g,d,t,os⟩) :
  wpAny (model prog w) A (call (.ref C) xs) Q E ⟨h,g,d,t,os⟩:=by
 have z1:=tc_lookup
 have z2:=tc_bind (.ref C)
 have z3:(⟨h,g,d,t,os⟩:Shared).TypeIs (.ref C) "type" := ⟨_,hC,rfl⟩
 refine abH (codeAny_of_tree ?_)
 show wpAny _ _ (callAny (.ref C) _) _ _ _
 repeat (any_goals (first | assumption | with_reducible refine abx hC ?_ | wp_step))
 refine ⟨rfl,codeAny_call_builtin_at (abY _ (by decide +kernel)) entry_typeCall (wpAny_check_type_call_sub hC ?_)⟩
 show wpAny _ (A.under (.builtin "type.__call__" ⟨.ref C::xs,[]⟩)) (Builtin.«type.__call__» ⟨.ref C::xs,[]⟩) _ _ _
 repeat (first | with_reducible refine abx hC ?_ | with_reducible refine wpAny_madeBy_exc hC ?_ | wp_step)
 refine codeAny_call_builtin_code (abY _ F.quiet) (wpAny_check_new_subT F T hC (codeAny_exc_new_subT F T hC ?_ hl))
 show wpAny _ _ _ _ _ _
 have up:∀ b o,h.get? b=some o->((h.push (oN xs)).push (jY C h.objs.size)).get? b=some o:=fun b o x=>gc _ (gc _ x)
 have GX:=up _ _ hC
 have hg:((h.push (oN xs)).push (jY C h.objs.size)).get? (h.objs.size+1)=some ⟨.ref C,none,.fields #[.ref h.objs.size,.none,.none,.none,.bool false,.none],#[]⟩:=by
  have:=ze (h.push (oN xs)) (o:=jY C h.objs.size) rfl
  rwa [OP] at this
 have cc:(Value.ref C::bm).contains (.ref C)=true:=by simp
 unfold isInstance
 repeat (first | with_reducible refine abx hg ?_ | (with_reducible refine wpAny_isSubtype_exc GX ?_;rw [cc]) | wp_step)
 show wpAny _ _ (typeLookup (.ref C) _) _ _ _
 refine hi _ _ _ _ up ?_
 refine LB (ba ?_)
 unfold bindSpecial
 refine ba (hf _ _ _ _ up ?_)
 rw [Cn (by decide)]
 refine wb (ba (ET k (fun r s' hr=>?_) fun _ _ x=>x))
 obtain ⟨rfl,z⟩:=hr
 wp_walk
 exact z
theorem Ts {M:Model}{s:Shared}{env:Env}{x:Sem Value}{Q:Flow->Shared->Prop}(hb:bm.contains (.type "BaseException")=true)(hh:A.handled=none)(k:wpAny M A x (fun v s1=>∃ e o vs,v=.ref e/\s1.heap.get? C=some (excClassObj nm q C N bs bm hdct sn sub ab col dd k0 k1 k2 k3 k5 newId)/\s1.heap.get? e=some o/\o.cls=.ref C/\o.data=.fields vs/\vs[1]?=some .none/\E (.ref e) s1) E s) :
  wpAny M A (raiseStmt env (some x) none) Q E s:=by
 have cb:(Value.ref C::bm).contains (.type "BaseException")=true:=by rw [acC,hb,Bool.or_true]
 unfold raiseStmt
 refine ba (ET k (fun v s1 z=>?_) fun _ _ x=>x)
 obtain ⟨e,o,vs,rfl,hC,he,hc,hd,h1,hE⟩:=z
 obtain ⟨hp,g,d,tk,os⟩:=s1
 refine ba (wb ?_)
 unfold excFromValue isExcClass isInstance raisedInstance setFlight
 repeat (first | (with_reducible refine abx he ?_;rw [hc]) | with_reducible refine WE he hd h1 ?_ | with_reducible refine abx hC ?_ | (with_reducible refine wpAny_isSubtype_exc hC ?_;rw [cb]) | wp_step)
 exact wpAny_raiseNew_none hh hE
end
end L2
namespace L2
open PySem PySem.Spec PyProof.Rows PySem.W PySem.Builtin PySem.Builtin.ObjectAttr
def oO (e C:Addr):HO:=.ext fun h=>∃ t,h.get? e=some (jY C t)
def qE (e C dx:Addr):HO:=.ext fun h=>∃ o vs a0,h.get? e=some o/\o.cls=.ref C/\o.data=.fields vs/\vs[0]?=some a0/\vs[1]?=some .none/\(o.dict=some dx/\vs[2]?=some .none)
def dO (e C:Addr)(d:Option Addr):HO:=.ext fun h=>∃ o vs,h.get? e=some o/\o.cls=.ref C/\o.data=.fields vs/\(o.dict=d/\vs[2]?=some .none)
structure XI (K:Frag) (C D f:Addr):Prop where
 ob:∃ dd nm bs ns qn sn sub ab col k0 k1 k2 k3 k5,K.lookup C=some ⟨.type "type",dd,.cls ⟨nm,bs,.ref C::.ref D::dq,ns,qn,true,sn,sub,ab,col,false⟩,#[k0,k1,k2,k3,some (.builtin "ValueError.__new__"),k5]⟩
 up:excIn K D dq "ValueError.__new__" = true
 ini:findIn K (.ref C) "__init__" = some (some (.ref f))
 fn:isFn K (.ref f)=true
 sa:findIn K (.ref C) "__setattr__" = some (some (.builtin "object.__setattr__"))
 kp:keepIn K (.ref C)=true
 rd:readsIn K D (.type "type")=true
 fc:findCls K (.ref D) (.type "type") "__init__" = some (.val (.builtin "ValueError.__init__"))
 sg:specialIn K (.ref D) "__getattribute__" = some (some (.builtin "type.__getattribute__"))
section
variable {K:Frag}{C D f:Addr}{h:Heap}
theorem XI.obj (x:XI K C D f)(Z:K.In h):∃ nm qn ns bs sn sub ab col dd k0 k1 k2 k3 k5,h.get? C=some (excClassObj nm qn C ns bs (.ref D::dq) true sn sub ab col dd k0 k1 k2 k3 k5 "ValueError.__new__"):=by
 obtain ⟨dd,nm,bs,ns,qn,sn,sub,ab,col,k0,k1,k2,k3,k5,e⟩:=x.ob
 exact ⟨nm,qn,ns,bs,sn,sub,ab,col,dd,k0,k1,k2,k3,k5,Z _ _ e⟩
theorem XI.cls (x:XI K C D f):∃ cd,clsIn K C=some cd/\cd.mro=.ref C::.ref D::dq/\cd.hasDict=true:=by
 obtain ⟨dd,nm,bs,ns,qn,sn,sub,ab,col,k0,k1,k2,k3,k5,e⟩:=x.ob
 exact ⟨⟨nm,bs,.ref C::.ref D::dq,ns,qn,true,sn,sub,ab,col,false⟩,by unfold clsIn;rw [e],rfl,rfl⟩
theorem XI.tail (x:XI K C D f)(Z:K.In h):OwnTail h dq (.ref D::dq):=by
 obtain ⟨bm,N,nm,qn,bs,hdct,sn,sub,ab,col,dd,k0,k1,k2,k3,k5,mN,hC,hN,GY,T⟩:=Lv Z x.up
 exact .own hC hN GY .base
theorem XI.top (x:XI K C D f):mroIn K C (.type "object")=some true:=by
 obtain ⟨cd,a,b,c⟩:=x.cls
 unfold mroIn
 rw [a,Option.bind_some,b]
 rfl
end
section
variable {prog:Program}{w:World}{A:Around}{E:Value->Shared->Prop}{s:Shared}{K:Frag}{C D f e:Addr}
theorem V3 {o:Obj}{vs:Array Value}{n:Str}{v:Value}{Q:Unit->Shared->Prop}(Z:K.In s.heap)(x:XI K C D f)(ho:s.heap.get? e=some o)(hc:o.cls=.ref C)(hv:o.data=.fields vs)(hn:o.dict=none)(na:sI K C n)(k:∀ h' t',h'.get? e=some { o with dict:=some s.heap.objs.size }->h'.Ns1 s.heap.objs.size (fun y=>if y=n then some v else none)->(∀ b u,b ≠ e->s.heap.get? b=some u->h'.get? b=some u)->Q () { s with heap:=h',toks:=t' }) :
  wpAny (model prog w) A (setAttr (.ref e) n v) Q E s:=by
 obtain ⟨cd,c1,c2,c3⟩:=x.cls
 have I:InstAt s.heap e o C none:=⟨ho,hc,by unfold notCls;rw [hv],by rw [hn];trivial⟩
 have SF:=F.store_object
 have sub:Looks (model prog w) s.heap (isInstance (.ref e) (.type "object")) true:=I.type.andThen (looks_mroIn Z x.top)
 have hm:Looks (model prog w) s.heap (mroOf (.ref C)) cd.mro:=(looks_clsIn Z c1).andThen .now
 refine set_plain Z I x.sa (Po SF.slot.plain SF.entry (check_slot (s:={ s with toks:=s.toks+1 }) (i := "object.__setattr__") (owner := "object") (n := "__setattr__") (self:=.ref e) (rest:=[.str n s.toks,v]) (kw:=[]) SF.kind SF.split sub (SF.args _ _ _) ?_))
 rw [osa_eq,refuse_eq]
 refine ba (ba (Looks.here (s:={ s with toks:=s.toks+1 }) I.type (ba (Looks.here (s:={ s with toks:=s.toks+1 }) hm ?_))))
 rw [c2,refuseLoop_ref,refuseLoop_ref,F.store_ValueError.passes]
 refine wb (ba (Looks.here (s:={ s with toks:=s.toks+1 }) I.type (ba (Looks.here (s:={ s with toks:=s.toks+1 }) (abK Z na) (ba (wb ?_))))))
 show wpAny _ _ (storeInOwnDict (.ref e) (.ref C) _ n v _) _ _ _
 refine ba (wb (ba (ba (acf ho ?_))))
 rw [hc]
 refine ba (Looks.here (s:={ s with toks:=s.toks+1 }) (looks_clsIn Z c1) ?_)
 rw [c3,hn]
 have Qj:(s.heap.push { cls:=.type "dict",data:=.dict #[] }).get? e=some o:=gc _ ho
 have ne:e ≠ s.heap.objs.size:=xp (lp ho)
 rw [hv]
 refine ba (wpAny_alloc' (ba (wpAny_update' Qj (wb ?_))))
 have hg:((s.heap.push { cls:=.type "dict",data:=.dict #[] }).update e fun o=>{ cls:=o.cls,dict:=some s.heap.objs.size,data:=o.data,slots:=o.slots }).get? s.heap.objs.size=some { cls:=.type "dict",data:=.dict #[] } :=
  (Heap.get?_update_ne _ _ _ _ ne.symm).trans (Heap.get?_push_at rfl rfl)
 have hN:((s.heap.push { cls:=.type "dict",data:=.dict #[] }).update e fun o=>{ cls:=o.cls,dict:=some s.heap.objs.size,data:=o.data,slots:=o.slots }).Ns s.heap.objs.size (fun _=>none) :=
  ⟨_,#[],_,hg,rfl,fun e he=>absurd he (by simp),fun _=>rfl⟩
 show wpAny _ _ (storeInDict s.heap.objs.size _ n v) _ _ _
 unfold storeInDict newKeyGuard
 refine ba (wb (ba (wpAny_nsSet1 (Heap.Ns1.of_empty hN) fun h' n1 s1=>?_)))
 obtain ⟨oD,esD,epD,hoD,hdD,hcD⟩:=n1.count (Within.cons n v Within.nil)
 refine ba (wpAny_lookBehind hoD (by rw [hdD];exact pastItsLine_dict (EM hcD (by rw [mf,List.length_nil,sizeLine_eq];omega))) ?_)
 refine wb (k h' _ ?_ n1 fun b u hb q=>?_)
 ·refine (s1.2 e ne).trans (NL _ Qj ?_)
  have fr:=(Heap.get?_some_iff.mp ho).2
  obtain ⟨oc,od,odt,gS⟩:=o
  cases hv
  rfl
 ·exact (s1.2 b (xp (lp q))).trans ((Heap.get?_update_ne _ _ _ _ hb).trans (gc _ q))
theorem Uq {t:Addr}{u:Value}{Q:Value->Shared->Prop}(Z:K.In s.heap)(x:XI K C D f)(ho:s.heap.get? e=some (jY C t))(k:∀ h' t',h'.get? e=some (jY C t')->(∀ b u,b ≠ e->s.heap.get? b=some u->h'.get? b=some u)->Q .none { s with heap:=h' }) :
  wpAny (model prog w) A (call (.builtin "ValueError.__init__") [.ref e,u]) Q E s:=by
 obtain ⟨nm,qn,ns,bs,sn,sub,ab,col,dd,k0,k1,k2,k3,k5,hC⟩:=x.obj Z
 have T:=x.tail Z
 have B:=F.excBase_ValueError
 obtain ⟨h,g,d,tk,os⟩:=s
 have cu:h.get? e=some ⟨.ref C,none,.fields #[.ref t,.none,.none,.none,.bool false,.none],#[]⟩:=ho
 refine abH (Po B.init.plain B.initEntry (wpAny_check_init_subT B T hC cu rfl ?_))
 wp_walk
 refine k _ h.objs.size ?_ fun b u hb q=>?_
 ·rw [NL _ (gc _ cu) rfl]
  rfl
 ·rw [Ll _ _ (abc hb)]
  exact gc _ q
theorem V4 {o:Obj}{vs:Array Value}{n:Str}{v:Value}{dx:Addr}{m:Str->Option Value}{Q:Value->Shared->Prop}{b:Bool}(Z:K.In s.heap)(ask:gP K C)(hd:hasDictIn K C=true)(na:sI K C n)(ho:s.heap.get? e=some o)(hc:o.cls=.ref C)(hv:o.data=.fields vs)(hx:o.dict=some dx)(hN:s.heap.Ns dx m)(hm:m n=some v)(hh:handedIn v=true)(k:Q v { s with toks:=s.toks+1 }):wpAny (model prog w) A (getAttr (.ref e) n b) Q E s:=by
 obtain ⟨hp,gn,dr,tt,oo⟩:=s
 have p:ExcAt e C hp:=⟨o,vs,ho,hc,hv⟩
 have T0:=p.ty (M:=model prog w)
 have T1:=abK (M:=model prog w) Z ask.ga
 have T2:=abK (M:=model prog w) Z ask.gt
 have hb:=ab9.ga.bind (.ref e)
 have nD:(onTheHeap (Value.ref C)&&Value.builtin "BaseException.__getattribute__" == Value.builtin "object.__getattribute__")=false:=by
  rw [show (Value.builtin "BaseException.__getattribute__" == Value.builtin "object.__getattribute__")=false by decide +kernel]
  rfl
 obtain ⟨cd,c1,c3⟩:=any_some hd
 have L3:Looks (model prog w) hp (find (.ref e) (.ref C) n) (.value v):=by
  refine (abK (M:=model prog w) Z na).andThen (Looks.now.andThen (Looks.now.andThen ?_))
  have L4:Looks (model prog w) hp (inOwnDict n (.ref e)) (some v):=by
   intro A' Q' E' s' kp z
   unfold inOwnDict ObjectAttr.ownDict loadHead
   refine ba (ba (acf (kp _ _ ho) ?_))
   rw [hv]
   unfold instanceDict
   refine ba (acf (kp _ _ ho) ?_)
   rw [hc]
   refine ba (looks_clsIn Z c1 A' _ E' s' kp ?_)
   rw [c3,hx]
   refine wb ?_
   exact wpAny_nsGet (hN.keeps kp) (by rw [hm];exact z)
  exact L4.andThen (Looks.tag .now)
 unfold getAttr getAttrBy
 refine ba (wpAny_mkText (LB (ba (T0.at (ba (T1.at ?_))))))
 simp only [nD,abX,acY]
 unfold getAttrByItsOwn
 refine ba (show wpAny _ _ (typeLookup (.ref C) "__getattr__") _ _ _ from T2.at ?_)
 refine ba (acr (LB ?_))
 unfold callGetattribute
 rw [show (b&&onTheHeap (Value.builtin "BaseException.__getattribute__"))=false from aab _,AM (by decide)]
 unfold boundAndCalled
 rw [hb]
 refine ba (wb (abH (Po ab9.ga.plain F.entry_bexc_ga (ask.check (s:=⟨hp,gn,dr,tt+1,oo⟩) Z p ?_))))
 unfold Builtin.«object.__getattribute__»
 repeat (first | (with_reducible refine Looks.at (by assumption) ?_) | wp_step)
 exact handed_on hh k
end
end L2
namespace L2
open PySem PySem.Spec PyProof.Rows
theorem Xe {H:Hp}{a:Addr}{o:HO}(h:H a=some o):upd H a o=H:=by
 funext b
 unfold upd
 split
 ·rename_i z;rw [z,h]
 ·rfl
theorem U7 {H:Hp}{a b:Addr}{o u:HO}(n:a ≠ b):upd (upd H a o) b u=upd (upd H b u) a o:=by
 funext c
 unfold upd
 by_cases h1:c=a
 ·subst h1
  rw [AM n,Cn rfl,Cn rfl]
 ·by_cases h2:c=b
  ·subst h2
   rw [Cn rfl,AM h1,Cn rfl]
  ·rw [AM h2,AM h1,AM h1,AM h2]
theorem SQ {M:Model}{A:Around}{E:Value->Shared->Prop}{s:Shared}{env:Env}{pos:Pos}{id:String}{first:List Value}{e:Expr}{rest:List Expr}{Q:Value->Shared->Prop}(h:wpAny M A (spliced (backTo pos (starEach (e::rest) env))) (fun vs s1=>wpAny M A (call (.builtin id) (first++vs)) Q E s1) E s)(he:starEach (e::rest) env=(false,eval e env)::starEach rest env)(hp:(backTo pos (starEach rest env)).any (·.1)=false):wpAny M A (callWith pos (.builtin id) first (backTo pos (starEach (e::rest) env)) []) Q E s:=by
 rw [he] at h ⊢
 refine PySem.W.callWith_of (P:=fun _=>True) ?_ (fun h _=>⟨.machine,.inr (.inl rfl),.now⟩) (abz (aj h fun _ _ z=>⟨trivial,z⟩))
 show ((false || (backTo pos (starEach rest env)).any (·.1)) || false)=false
 rw [hp]
 rfl
def X9 (C:Addr)(ta:TA):TE:=fun σ H Q=>ta σ H fun vs H1=>∃ e u,vs=[.ref e,u]/\H1 e=some (oO e C)/\Q .aN H1
def Yb (C:Addr)(n:Str)(ta tv:TE):TS:=fun D σ H=>tv σ H fun y H1=>ta σ H1 fun x H2=>∃ e,x=.ref e/\H2 e=some (oO e C)/\∀ dx,H2 dx=none->dx ≠ e->D.nx σ (upd (upd H2 e (qE e C dx)) dx (.xd [(n,y)]))
section
variable {X:Cx}{C D f:Addr}{x n:Str}{np apos pos cY:Pos}{e1 o v:Expr}{es:List Expr}{ta:TA}{to tv:TE}
theorem LO {pl:Sem Bool}(hg:Gl X x)(hm:X.mg x=some (.ref D))(xi:XI X.K C D f)(ha:PA X (e1::es) ta)(hdb:(x==("__debug__" : Str))=false:=by decide)(dQ:starEach (e1::es) X.env=(false,eval e1 X.env)::starEach es X.env:=by rfl)(cv:(backTo pos (starEach es X.env)).any (·.1)=false:=by rfl)(ht:eval (.Call (.Attribute (.Name x np) "__init__" apos) (e1::es) [] pos) X.env=(do
   let ov <- eval (.Name x np) X.env
   standAt apos.atName
   let (f,first) <- holding [ov] (getMethod ov "__init__" pl)
   callWith pos f first (backTo pos (starEach (e1::es) X.env)) (backToKw pos (keywordEach [] X.env))):=by rfl) :
  PE X (.Call (.Attribute (.Name x np) "__init__" apos) (e1::es) [] pos) (X9 C ta):=by
 intro pins s σ H Q I h
 refine PySem.W.methodCall_KW (pl:=pl) (pS I hg hm ?_ hdb) ht
 refine PySem.W.method_cls I.cB xi.sg (PySem.W.cls_value I.cB xi.rd xi.fc rfl ?_)
 refine SQ (first:=[]) (aj (ha pos pins _ σ H _ (I.tok (s.toks+1)) h) fun us s2 ⟨vs,H2,I2,r,q⟩=>?_) dQ cv
 obtain ⟨e,u,rfl,he,q⟩:=q
 cases r with
 |cons r1 rr=>cases rr with
  |cons r2 rr =>
   cases rr
   cases r1
   obtain ⟨⟨t,ho⟩,_,_⟩:=I2.aq e _ he
   refine Uq I2.cB xi ho fun h' t' g1 g2=>⟨.aN,H2,?_,rfl,q⟩
   have J:=I2.write (x:=e) (e:=e) (o:=oO e C) (t':=s2.toks) (by rw [he];exact True.intro) (.inl rfl) g2 ⟨_,g1⟩ ⟨⟨t',g1⟩,⟨_,g1⟩,fun h1 h2 ⟨t,q⟩ k=>⟨t,k _ q⟩⟩
   rw [Xe he] at J
   exact J
theorem LQ (hex:X.ex=[])(xi:XI X.K C D f)(na:sI X.K C n)(ho:PE X o to)(hv:PE X v tv)(hs:swapsWith v (some (.Attribute o n apos)) pos.line X.env=pure false:=by rfl):PS X (.Assign [.Attribute o n apos] v pos) (Yb C n to tv):=by
 intro pins s σ H E I h
 refine plainObj_wpAny_Assign_Attribute (aj (hv pins s σ H _ I h) fun u s1 ⟨y,H1,I1,ry,q1⟩=>aj (ho pins s1 σ H1 _ I1 q1) fun ov s2 ⟨z,H2,I2,rx,e,ex,hx,q2⟩=>?_) hs
 subst ex
 obtain rfl:ov=Value.ref e:=rx
 obtain ⟨⟨t,he⟩,_,_⟩:=I2.aq e _ hx
 have lt:=lp he
 have fr:H2 s2.heap.objs.size=none:=I2.aq.fresh (ee _)
 refine V3 I2.cB xi he rfl rfl rfl na fun h' t' g1 g2 g3=>⟨σ,_,?_,q2 s2.heap.objs.size fr (Nl lt)⟩
 have J:=I2.write (x:=e) (e:=e) (o:=qE e C s2.heap.objs.size) (t':=t') (by rw [hx];exact True.intro) (.inl rfl) g3 ⟨_,g1⟩ ⟨⟨_,_,_,g1,rfl,rfl,rfl,rfl,rfl,rfl⟩,⟨_,g1⟩,fun h1 h2 ⟨o,vs,a0,q,r⟩ k=>⟨o,vs,a0,k _ q,r⟩⟩
 have old:∀ {b:Addr} {u:Obj},s2.heap.get? b=some u->b ≠ s2.heap.objs.size:=fun q=>xp (lp q)
 refine J.EA (by rw [ay (Nl lt)];exact fr) ?_ (fun z=>?_) (fun y c q z=>?_) (fun p hp z=>?_) ⟨_,g2,fun g=>?_⟩
 ·cases q:X.bW.heap.get? s2.heap.objs.size with
  |none=>rfl
  |some u =>
   obtain ⟨u',q'⟩:=I2.base.there _ u q (by rw [hex];simp)
   exact absurd rfl (old q')
 ·obtain ⟨m,⟨u,_,_,hu,_⟩,_⟩:=I2.loc
  exact old hu z.symm
 ·obtain ⟨v,u,hu,_⟩:=I2.cell y c q
  exact old hu z
 ·exact old (I2.pin p hp).1 z
 ·show qz ([(n,y)].lookup g) (if g=n then some u else none)
  by_cases q:g=n
  ·have hb:(g==n)=true:=GG.mpr q
   rw [Cn q]
   simp only [List.lookup,hb]
   exact ry
  ·have hb:(g==n)=false:=Mc.mpr q
   rw [AM q]
   simp only [List.lookup,hb]
   exact True.intro
end
def rA (C:Addr)(n:Str):Sp:=fun vs H Q _=>∃ e v,vs=[.ref e,v]/\H e=some (oO e C)/\∀ dx,H dx=none->dx ≠ e->Q .aN (upd (upd H e (qE e C dx)) dx (.xd [(n,v)]))
def bq (P:Program)(w:World):fU:=fun outer H s E e s'=>∃ x C d H',e=.ref x/\oz P w outer H s x C H' s'/\gv s'.heap x d/\E (.ref C) (some x) (upd H' x (dO x C d))
def LR (X:Cx)(E:XK):Prop:=∀ (pins:List (Addr×Obj)) (σ:St) (H1:Hp) (s1:Shared) (e C dx:Addr),Inv X pins σ H1 s1->X.bW.heap.get? e=none->H1 e=some (qE e C dx)->E (.ref C) (some e) (upd H1 e (dO e C (some dx)))->X.xe (.ref e) s1
def del (H:Hp)(e:Addr):Hp:=fun b=>if b=e then none else H b
theorem qa {H:Hp}{e b:Addr}(h:b ≠ e):del H e b=H b:=AM h
theorem V5 {H:Hp}{e:Addr}{o:HO}:upd (del H e) e o=upd H e o:=by
 funext b
 unfold upd del
 split
 ·rfl
 ·rfl
section
variable {P:Program}{w:World}{K:Frag}{mg:Str->Option Value}{base:Heap}{N:List Str}{qual:Str}{sc:Scope}{f:Addr}{cd:Value}{A:Around}{outer:List Env}{s:Shared}{H:Hp}{E:XK}
theorem Tt:LR (bj (bq P w) P w K mg base N qual sc f cd A outer s H E) E:=by
 intro pins σ H1 s1 e C dx I yP he hE
 show wpAny (model P w) (A.deeper (envOfC qual sc s.heap.objs.size f cd)) (leaving (envOfC qual sc s.heap.objs.size f cd) (.ref e)) _ _ _
 obtain ⟨⟨o,vs,a0,ho,hc,hd,h0,h1,hx,rq⟩,_,_⟩:=I.aq e _ he
 generalize hL:bg (envOfC qual sc s.heap.objs.size f cd::outer)=L
 have eC:∀ env ∈ (envOfC qual sc s.heap.objs.size f cd::outer),∀ a,env.frame=some a->a ∈ e::L:=fun env z a q=>LH _ (hL ▸ Mu env z a q)
 have FF:s1.heap.FunFrames (hideAll s1.heap (e::L)) (envOfC qual sc s.heap.objs.size f cd::outer):=PySem.W.funFrames_hide I.stack eC
 have yQ:(hideAll s1.heap (e::L)).get? e=none:=PySem.W.hideAll_none _ (abP)
 have ik:∀ b o,s.heap.get? b=some o->b ≠ e:=fun b o q z=>by subst z;rw [show (bj (bq P w) P w K mg base N qual sc f cd A outer s H E).bW=s from rfl,q] at yP;cases yP
 have Qk:∀ b o,s.heap.get? b=some o->b ∉ bg outer->b ∉ e::L:=fun b o q hb z=>by
  rcases gr.mp z with z | z
  ·exact ik b o q z
  ·subst hL
   rcases gr.mp (I.jO b z) with z | z
   ·have lt:=rb (lp q) I.ok.above
    rw [z] at lt
    exact absurd lt (LM _)
   ·exact hb z
 have qF:=wpAny_leaving_firstW (M:=model P w) (A:=A.deeper (envOfC qual sc s.heap.objs.size f cd)) (E:=fun e' e8=>bq P w outer H s E e' e8) (Q:=fun _ s2=>∃ h',s2={ s1 with heap:=h' }/\Heap.LeftW (hideAll s1.heap (e::L)) (envOfC qual sc s.heap.objs.size f cd::outer) e o.cls a0 s1.heap h')
  I.ok.frames FF rfl ho (fun b u q=>acz _ q) yQ hd h1 h0 fun h' z=>⟨h',rfl,z⟩
 have qG:wpAny (model P w) (A.deeper (envOfC qual sc s.heap.objs.size f cd)) (leaving (envOfC qual sc s.heap.objs.size f cd) (.ref e)) (fun _ s2=>gv s2.heap e (some dx)) (fun _ _=>True) s1:=by
  unfold leaving
  exact ba (ET (JD I.ok.frames FF rfl ho hd h1 hx rq) (fun _ _ z=>rY z) fun _ _ z=>z)
 refine two qF qG ?_
 rintro _ _ ⟨h2,rfl,k1,⟨_,_,k2⟩,k3,k4⟩ tr
 rw [hc] at k3
 refine ⟨e,C,some dx,del H1 e,rfl,⟨I.os,I.bare,⟨_,_,⟨k1,yQ,k2,k3⟩,fun b u q=>?_,fun b u q n hb=>?_,fun b u q hb=>?_⟩,fun b u q hb=>?_,fun b u q n=>?_,fun b xs q=>?_,fun b u v q=>?_,fun b ps q=>?_,Cn rfl⟩,tr,by rw [V5];exact hE⟩
 ·by_cases hb:b=e
  ·subst hb;rw [show del H1 b b=none from Cn rfl] at q;cases q
  ·rw [qa hb] at q
   refine (I.aq b u q).hJ (fun c v kE z=>ab5 _ z fun hm=>?_) (fun c z=>?_) fun c xs z=>?_
   ·rcases gr.mp hm with rfl | hm
    ·rcases kE with rfl | kE
     ·exact hb rfl
     ·rw [he] at kE;cases kE
    ·subst hL
     have n:=I.wW c hm
     rcases kE with rfl | kE
     ·rw [n] at q;cases q
     ·rw [n] at kE;cases kE
   ·have:c ≠ e:=fun y=>by subst y;rw [he] at z;cases z
    rw [qa this];exact z
   ·have:c ≠ e:=fun y=>by subst y;rw [he] at z;cases z
    rw [qa this];exact z
 ·exact ab5 _ (I.base.keep b u q n hb (by simp [bj])) (Qk b u q hb)
 ·obtain ⟨u',q'⟩:=I.base.there b u q (by simp [bj])
  exact ⟨u',ab5 _ q' (Qk b u q hb)⟩
 ·have n0:=I.ok.gR b hb
  obtain ⟨sl,q1⟩:=I.base.slot b u q n0 hb (by simp [bj])
  obtain ⟨_,o2,dw,hd2⟩:=I.ok.eu.mem hb
  have e2:o2=u:=by
   rw [show (bj (bq P w) P w K mg base N qual sc f cd A outer s H E).bW=s from rfl,q] at dw
   exact (AE dw).symm
  subst e2
  obtain ⟨aL,q2⟩:=k4 b _ q1 hd2
  exact ⟨aL,q2⟩
 ·rw [qa (ik b u q)];exact I.base.free b u q n (by simp [bj])
 ·have z:=I.base.dJ b xs q
  have:b ≠ e:=fun y=>by subst y;rw [he] at z;cases z
  rw [qa this];exact z
 ·have z:=I.base.dF b u v q
  have:b ≠ e:=fun y=>by subst y;rw [he] at z;cases z
  rw [qa this];exact z
 ·obtain ⟨m,z⟩:=I.base.dN b ps q
  have:b ≠ e:=fun y=>by subst y;rw [he] at z;cases z
  exact ⟨m,by rw [qa this];exact z⟩
end
def LU (C:Addr)(n:Str)(E:XK)(ta:TA):TS:=fun _ σ H=>ta σ H fun vs H1=>∃ v,vs=[v]/\∀ e dx,H1 e=none->H1 dx=none->dx ≠ e->E (.ref C) (some e) (upd (upd H1 e (dO e C (some dx))) dx (.xd [(n,v)]))
section
variable {X:Cx}{E:XK}{C D f:Addr}{x n:Str}{np cY pos:Pos}{nj:Expr}{rest:List Expr}{ta:TA}{k:Nat}{fd:FuncData}{ps:List Str}
theorem Ur (R:LR X E)(hc:X.calm=true)(hex:X.ex=[])(hg:Gl X x)(hm:X.mg x=some (.ref C))(xi:XI X.K C D f)(Fn:bc X.prog X.w X.K X.mg X.base aG k f fd ps (rA C n))(hr:dk (k+1) X.A)(hb:Binds X.K fd ps [])(ha:PA X (nj::rest) ta)(he:starEach (nj::rest) X.env=(false,eval nj X.env)::starEach rest X.env:=by rfl)(cv:(backTo cY (starEach rest X.env)).any (·.1)=false:=by rfl)(hdb:(x==("__debug__" : Str))=false:=by decide) :
  PS X (.Raise (some (.Call (.Name x np) (nj::rest) [] cY)) none pos) (LU C n E ta):=by
 intro pins s σ H D' I h
 obtain ⟨nm,qn,ns,bs,sn,sub,ab,col,dd,k0,k1,k2,k3,k5,hC⟩:=xi.obj I.ok.mod.nk
 rw [arm_exec_Raise]
 refine ba (YO ?_)
 simp only [evalOpt,Option.map]
 refine Ts (C:=C) (nm:=nm) (q:=qn) (N:=ns) (bs:=bs) (bm:=.ref D::dq) (hdct:=true) (sn:=sn) (sub:=sub) (ab:=ab) (col:=col) (dd:=dd) (k0:=k0) (k1:=k1) (k2:=k2) (k3:=k3) (k5:=k5) (newId := "ValueError.__new__") (by rw [acC,show dq.contains (.type "BaseException")=true by decide,Bool.or_true]) (I.ok.hd hc) ?_
 refine ba (ET (Q:=fun v s1=>∃ e o vs,v=.ref e/\s1.heap.get? C=some (excClassObj nm qn C ns bs (.ref D::dq) true sn sub ab col dd k0 k1 k2 k3 k5 "ValueError.__new__")/\s1.heap.get? e=some o/\o.cls=.ref C/\o.data=.fields vs/\vs[1]?=some .none/\X.xe (.ref e) s1) (E:=X.xe) ?_ (fun v s3 h3=>ba (YO (wb h3))) fun _ _ z=>z)
 refine US (pS I hg hm ?_ hdb)
 refine callWith_K (h₀:=X.base) I.ok.mod.nk xi.kp (aj (ha cY pins s σ H _ I h) fun us s1 ⟨vs,H1,I1,r,q⟩=>⟨I1.cB,?_⟩) he cv
 obtain ⟨v,rfl,q⟩:=q
 obtain ⟨u,rfl,rv⟩:∃ u,us=[u]/\RelV v u:=by
  cases r with
  |cons rv rr =>
   cases rr
   exact ⟨_,rfl,rv⟩
 ·obtain ⟨hp,g,d,tk,os⟩:=s1
  have GX:hp.get? C=some (excClassObj nm qn C ns bs (.ref D::dq) true sn sub ab col dd k0 k1 k2 k3 k5 "ValueError.__new__"):=I1.bk _ _ hC
  have Z1:X.K.In hp:=I1.cB
  have up:∀ b o,hp.get? b=some o->((hp.push (oN [u])).push (jY C hp.objs.size)).get? b=some o:=fun b o z=>gc _ (gc _ z)
  have Ql:((hp.push (oN [u])).push (jY C hp.objs.size)).get? (hp.objs.size+1)=some (jY C hp.objs.size):=by
   have:=ze (hp.push (oN [u])) (o:=jY C hp.objs.size) rfl
   rwa [OP] at this
  have nf:H1 (hp.objs.size+1)=none:=I1.aq.fresh (Mn _)
  have I2:Inv X pins σ (upd H1 (hp.objs.size+1) (oO (hp.objs.size+1) C)) ⟨(hp.push (oN [u])).push (jY C hp.objs.size),g,d,tk,os⟩ :=
   I1.laid (a:=hp.objs.size+1) (o:=oO (hp.objs.size+1) C) (t':=tk) up (Mn _) ⟨⟨_,Ql⟩,⟨_,Ql⟩,fun h1 h2 ⟨t,q⟩ k=>⟨t,k _ q⟩⟩
  have yP:X.bW.heap.get? (hp.objs.size+1)=none:=by
   cases z:X.bW.heap.get? (hp.objs.size+1) with
   |none=>rfl
   |some o =>
    obtain ⟨o',z'⟩:=I1.base.there _ o z (by rw [hex];simp)
    exact absurd (lp (show hp.get? (hp.objs.size+1)=some o' from z')) (Nat.not_lt.mpr (Mn _))
  have sp:rA C n [.ref (hp.objs.size+1),v] (upd H1 (hp.objs.size+1) (oO (hp.objs.size+1) C)) (fun w H3=>w=.aN/\∃ dx,dx ≠ hp.objs.size+1/\H1 dx=none/\H3=upd (upd H1 (hp.objs.size+1) (qE (hp.objs.size+1) C dx)) dx (.xd [(n,v)])) (fun _ _ _=>False) :=
   ⟨_,_,rfl,bT,fun dx hd ne=>⟨rfl,dx,ne,by rw [<- ay (H:=H1) (o:=oO (hp.objs.size+1) C) ne];exact hd,by rw [DE]⟩⟩
  have r2:Vals [V.ref (hp.objs.size+1),v] [Value.ref (hp.objs.size+1),u]:=.cons rfl (.cons rv .nil)
  have hl:([Value.ref (hp.objs.size+1),u]++[]).length=ps.length:=by
   have z:=Fn.len _ _ _ _ sp
   rw [<- z];rfl
  refine Up aby (xi.tail Z1) GX (PySem.W.looks_findIn Z1 xi.ini) (PySem.W.looks_typeIn Z1 (GG.mp xi.fn)) (by show 1<=sizeLine;decide) ?_
  refine abH (YE (Fn.run _ X.stack _ _ ⟨[Value.ref (hp.objs.size+1),u],[]⟩ ([Value.ref (hp.objs.size+1),u]++[]) [V.ref (hp.objs.size+1),v] _ (fun _ _ _=>False) (hr.make C [u] []) (I2.yf.make C [u] []) (hb _ [Value.ref (hp.objs.size+1),u] I2.cB hl) r2 sp) fun r s' hq=>?_)
  cases r with
  |error e=>exact False.elim hq
  |ok fl =>
   cases fl with
   |next=>exact False.elim hq
   |brk=>exact False.elim hq
   |cont=>exact False.elim hq
   |ret w =>
    obtain ⟨w',H3,I3,qS,ew,dx,ne,hd,eH⟩:=I2.after hq
    subst ew
    subst eH
    have xe:upd (upd H1 (hp.objs.size+1) (qE (hp.objs.size+1) C dx)) dx (.xd [(n,v)]) (hp.objs.size+1)=some (qE (hp.objs.size+1) C dx):=by rw [ay ne.symm];exact bT
    refine ⟨qS,hp.objs.size+1,?_⟩
    obtain ⟨⟨o,vs,a0,y1,y2,y3,_,y5,_⟩,_,_⟩:=I3.aq _ _ xe
    refine ⟨o,vs,rfl,I3.bk _ _ hC,y1,y2,y3,y5,R pins σ _ s' _ C dx I3 yP xe ?_⟩
    rw [U7 ne,DE]
    exact q _ dx nf hd ne
end
section
variable {X:Cx}
def Yc (K:Frag):List V->Hp->VK->Prop:=fun xs H Q=>∃ a c b C dx,xs=[.ref a,c]/\H a=some (dO a C dx)/\gP K C/\(∀ u,RelV c u->kitOne K (.ref C) u=some b)/\Q (.bl b) H
theorem iq {K:Frag}(h:X.K=K):fm X (.builtin "isinstance") (Yc K):=by
 subst h
 intro pins s σ H xs us Q I r h
 obtain ⟨a,c,b,C,dx,rfl,hH,ask,hk,q⟩:=h
 cases r with
 |cons r1 rr=>cases rr with
  |cons r2 rr =>
   cases rr
   cases r1
   obtain ⟨⟨o,vs,h1,h2,h3,_⟩,_,_⟩:=I.aq a _ hH
   exact ab7 (UZ ask) I.cB ⟨o,vs,h1,h2,h3⟩ (hk _ r2) (by intro z;cases z) fun tk=>⟨.bl b,H,I.tok tk,rfl,q⟩
def Yd (C:Addr)(n:Str)(to:TE):TE:=fun σ H Q=>to σ H fun x H1=>∃ a dx v,x=.ref a/\H1 a=some (dO a C (some dx))/\H1 dx=some (.xd [(n,v)])/\Q v H1
theorem V6 {C:Addr}{n:Str}{o:Expr}{to:TE}{pos:Pos}(ask:gP X.K C)(hd:hasDictIn X.K C=true)(na:sI X.K C n)(ho:PE X o to)(hb:attributeBase o n X.env (eval o X.env)=eval o X.env:=by rfl):PE X (.Attribute o n pos) (Yd C n to):=by
 intro pins s σ H Q I h
 refine VL hb (aj (ho pins s σ H _ I h) fun ov s1 ⟨x,H1,I1,rx,a,dx,v,ex,ha,hx,q⟩=>?_)
 subst ex
 obtain rfl:ov=Value.ref a:=rx
 obtain ⟨⟨ob,vs,h1,h2,h3,h4,_⟩,_,_⟩:=I1.aq a _ ha
 obtain ⟨mA,hn,hr⟩:=(show dD X.prog X.w H1 s1.heap dx (.xd [(n,v)]) from I1.aq dx _ hx)
 have z:=hr n
 simp only [List.lookup,beq_self_eq_true] at z
 obtain ⟨u,hu,ru⟩:=qz.some_of z
 exact V4 I1.cB ask hd na h1 h2 h3 h4 hn.ns hu (Ua ru) ⟨v,H1,I1.tok _,ru,q⟩
end
def pd (G H:Hp)(C:Addr)(n:Str)(v:V)(E:XK):Prop:=∀ x dx G' H',Step G H G' H'->H' x=none->H' dx=none->dx ≠ x->E (.ref C) (some x) (upd (upd H' x (dO x C (some dx))) dx (.xd [(n,v)]))
section
variable (P:Program) (w:World) (K:Frag) (mg:Str->Option Value) (base:Heap) (N:List Str) (qual:Str) (sc:Scope) (f:Addr) (k:Nat)
def bF (i:nH k qual sc f):Cx:=bj (bq P w) P w K mg base N qual sc f i.az i.A i.outer i.s i.H i.E
def eL:aQ (nH k qual sc f) where
 cx i:=(bF P w K mg base N qual sc f k i).du
 P:=P
 w:=w
 K:=K
 mg:=mg
 base:=base
 room:=k
 hP _:=rfl
 hw _:=rfl
 hK _:=rfl
 hm _:=rfl
 hb _:=rfl
 hr i:=i.hr
 calm _:=rfl
def v8 (bh:List Stmt)(ρ:En)(C:Addr)(n:Str)(v:V):Prop:=∃ τ:nH k qual sc f->TS,(∀ i,df (bF P w K mg base N qual sc f k i) bh (τ i))/\∀ i D σ G0 H0 G H,RS K G0 H0 G H ρ σ->pd G0 H0 C n v i.E->τ i D σ H
end
section
variable {P:Program}{w:World}{K:Frag}{mg:Str->Option Value}{base:Heap}{N:List Str}{qual:Str}{sc:Scope}{f:Addr}{k:Nat}{ρ ρ1:En}{st:Stmt}{bh A B:List Stmt}{C:Addr}{n:Str}{v:V}{c:Expr}{pos:Pos}
theorem JZ {x:Str}{np cY:Pos}{e:Expr}{D fi:Addr}{ki:Nat}{Qm:FuncData}{Qn:List Str}(hm:mg x=some (.ref C))(xi:XI K C D fi)(Fn:bc P w K mg base aG ki fi Qm Qn (rA C n))(hki:ki+1<=k)(hb:Binds K Qm Qn [])(he:Ev (eL P w K mg base N qual sc f k) e ρ (.fz (.fl v)))(hg:∀ i,Gl (bF P w K mg base N qual sc f k i) x:=by intro _;rfl)(dQ:∀ i,starEach [e] (bF P w K mg base N qual sc f k i).env=(false,eval e (bF P w K mg base N qual sc f k i).env)::starEach [] (bF P w K mg base N qual sc f k i).env:=by intro _;rfl)(hdb:(x==("__debug__" : Str))=false:=by decide):v8 P w K mg base N qual sc f k (.Raise (some (.Call (.Name x np) [e] [] cY)) none pos::bh) ρ C n v:=by
 obtain ⟨τ,p,q⟩:=he.use
 refine ⟨fun i=>cq (LU C n i.E (aT τ ck)) iy,fun i=>bM (Ur (X:=bF P w K mg base N qual sc f k i) Tt rfl rfl (hg i) hm xi Fn (i.hr.mono hki) hb (au (PE.du (p i)) aV (dQ i)) (dQ i) rfl hdb) iZ,fun i D σ G0 H0 G H r kx=>?_⟩
 obtain ⟨fp,r⟩:=r
 refine q σ G H _ r.st.s r.own.lY fun v' G' H' st hv=>?_
 cases aB hv
 exact ⟨_,rfl,fun e dx h1 h2 h3=>kx e dx G' H' (r.st.trans st) h1 h2 h3⟩
theorem iC.gW {x:Str}{st:Stmt}{dV:Value}{fd:FuncData}{ps:List Str}{sp:Sp}(F:iC K x qual st dV f fd)(S:cH N ps (aD st))(len:∀ vs H Q E,sp vs H Q E->vs.length=ps.length)(qf:∀ (az:Value) (A:Around) (outer:List Env) (s:Shared) (H:Hp) (vs:List V) (Q:VK) (E:XK),dk k (A.deeper (envOfC qual (aD st) s.heap.objs.size f az))->sp vs H Q E ->
   ∃ t,df (bj (bq P w) P w K mg base N qual (aD st) f az A outer s H E) (bR st) t/\t { nx:=fun _ H'=>Q .aN H',rt:=Q } (start N vs) H):bc P w K mg base (bq P w) (k+1) f fd ps sp:=by
 obtain ⟨oc,od,kV,doc,pm,an,az,ct,gS,rfl,lk,ie⟩:=F.ex
 exact M9 lk ie S len fun A outer s H vs Q E hr jq=>qf az A outer s H vs Q E hr jq
end
section
variable {prog:Program}{w:World}{A:Around}{E:Value->Shared->Prop}{s:Shared}{R:Result->Shared->Prop}{I:Addr}{fp wr:List Addr}{n:Nat}{P:Nat->Value->Prop}{St:Nat->Heap->Prop}
theorem Us (a:Value){Q₁:Value->Shared->Prop}(h:Q₁ (.ref s.heap.objs.size) { s with heap:=s.heap.push { cls:=.type "set",dict:=none,data:=.set #[] 0 (.fresh 0 0 (!w.params.followText "set-order")) } }) :
  codeAny (model prog w) A (.call (.builtin "set.__new__") ⟨[.type "set",a],[]⟩) (wants Q₁ E) s:=by
 refine codeAny_of_tree ?_
 show wpAny _ A.in1 (do checkBuiltinCall "set.__new__" ⟨[.type "set",a],[]⟩;again (.builtin "set.__new__" ⟨[.type "set",a],[]⟩)) _ _ s
 refine ba (wpAny_of_eq (F.newCall_set_1 a) (wb ⟨plainId_quiet F.plain_set_new _,abt F.entry_set_new ?_⟩))
 rw [aco F.plain_set_new _]
 unfold Builtin.«set.__new__» Builtin.Frozenset.newClass
 have vC:=sub_set_self
 obtain ⟨hp,g,d,tk,os⟩:=s
 dsimp only
 wp_walk
 refine wpAny_askSetting (wb ?_)
 dsimp only
 simp only [newObj]
 refine ba (wpAny_alloc (wb ?_))
 exact wb h
end
section
variable {prog:Program}{w:World}{A:Around}{E:Value->Shared->Prop}{s:Shared}
def tF (b:Bool):Obj:={ cls:=.type "set",dict:=none,data:=.set #[] 0 (.fresh 0 0 b) }
end
end L2
namespace L2
open PySem
theorem Sh:entryFor table "proto.unchain" = some Builtin.«proto.unchain»:=entryFor_of_tree (by kernel_rfl)
def Nj (h:Heap)(x:Addr):Prop:=∃ o vs,h.get? x=some o/\o.data=.fields vs/\vs[2]?=some .none
section
variable {prog:Program}{w:World}{A:Around}{E:Value->Shared->Prop}{s:Shared}{α:Type}
theorem Si {e x:Addr}{o:Obj}{vs:Array Value}{Q : α->Shared->Prop}(hh:A.handled=some (.ref x))(ne:x ≠ e)(ho:s.heap.get? e=some o)(hd:o.data=.fields vs)(h2 : 2<vs.size)(hx:Nj s.heap x)(k:E (.ref e) { s with heap:=s.heap.update e (Obj.mapFields (·.setIfInBounds 2 (.ref x))) }):wpAny (model prog w) A (raiseNew (.ref e):Sem α) Q E s:=by
 obtain ⟨ox,xs,hx,hxd,Qo⟩:=hx
 unfold raiseNew
 refine ba (wpAny_handled ?_)
 rw [hh]
 have nb:(Value.ref x != Value.ref e)=true:=by simp [ne]
 simp only [nb,acu]
 refine ba (LB (wpAny_runValue (abt Sh ?_)))
 show wpAny _ _ (field (.ref x) 2 >>= _) _ _ _
 refine ba (WE hx hxd Qo ?_)
 rw [Cn (by decide)]
 refine wb ?_
 exact ba (show wpAny _ _ (setField (.ref e) 2 (.ref x)) _ _ _ from acg ho hd h2 (wpAny_throw k))
theorem RU {it x:Addr}{a left step:Int}{Q:Option Value->Shared->Prop}(hh:A.handled=some (.ref x))(hx:Nj s.heap x)(hit:IsRangeIter s.heap it a left step)(hl:left<=0)(hQ:∀ h',Heap.ExtBut it s.heap h'->Q none { s with heap:=h' }):wpAny (model prog w) A (pyNext (.ref it)) Q E s:=by
 have hT:s.TypeIs (.ref it) "range_iterator" := ⟨_,hit,rfl⟩
 unfold pyNext
 refine ba (acr (wpAny_callSpecial?_slot (name:=Str.ofString "__next__") hT F.slot_range_iterator_next (wpAny_call_entry F.slot_range_iterator_next hT F.entry_range_iterator_next ?_ (F.args_range_iterator_next_1 _))))
 show wpAny _ _ (field (.ref it) 0 >>= _) _ _ s
 refine ba (WE hit rfl (x:=rawInt a) rfl ?_)
 show wpAny _ _ (field (.ref it) 1 >>= _) _ _ s
 refine ba (WE hit rfl (x:=rawInt left) rfl ?_)
 show wpAny _ _ (field (.ref it) 2 >>= _) _ _ s
 refine ba (WE hit rfl (x:=rawInt step) rfl ?_)
 show wpAny _ _ (if left<=0 then _ else _) _ _ s
 rw [Cn hl]
 refine ba (wpAny_rule (ba ?_))
 show wpAny _ _ (newExc (.type "StopIteration") [] >>= _) _ _ _
 refine ba ?_
 simp only [newExc,newTuple]
 refine ba (Sk ?_ (by size_fits))
 refine ba (m:=firstArgMember _ _) (wpAny_of_eq (a:=Value.none) (by first | rfl | (simp only [firstArgMember];rfl)) ?_)
 refine Sk ?_ (by size_fits)
 obtain ⟨ox,xs,q1,q2,q3⟩:=hx
 have up:∀ (z1 z2:Obj) b o,s.heap.get? b=some o->((s.heap.push z1).push z2).get? b=some o:=fun z1 z2 b o z=>gc _ (gc _ z)
 have lt:=lp q1
 have lti:=lp hit
 refine Si (x:=x) (by first | exact hh | exact (show A.in1.handled=_ from hh)) (by rw [OP];exact xp (ab8 lt)) (ze _ rfl) rfl (rb (show 2<6 by decide) (by rw [So];exact SS 6 _)) ⟨ox,xs,up _ _ _ _ q1,q2,q3⟩ ?_
 refine ba (wpAny_isInstance (T := "StopIteration") (b:=true) ⟨_,NL _ (ze _ rfl) rfl,rfl⟩ isSubtype_stop ?_)
 refine wb (hQ _ fun b o hb e=>?_)
 have ltb:=lp e
 refine (Ll _ _ ?_).trans (up _ _ _ _ e)
 rw [OP]
 exact Nl (ab8 ltb)
end
end L2
namespace L2
open PySem PySem.Spec PyProof.Rows
structure Nk (A:Around) (P:Program) (w:World) (K:Frag) (tg:Expr) (J:It) (fp:List Addr) (it:Addr) (tn:Nat->Heap->Prop):Prop where
 mem:it ∈ fp
 obj:∀ i h,tn i h->∀ b ∈ fp,∃ o,h.get? b=some o/\∀ v,o.data ≠ .cell v
 keep:∀ i h h',tn i h->(∀ b ∈ fp,∀ o,h.get? b=some o->h'.get? b=some o)->tn i h'
 item:∀ (X:Cx),X.prog=P->X.w=w->X.K=K->X.A=A->∀ (i:Nat) (pins:List (Addr×Obj)) (s:Shared) (σ:St) (H:Hp) (E:Value->Shared->Prop),Inv X pins σ H s->(∀ b ∈ fp,eW X pins H b)->tn i s.heap->J.go i H ->
  wpAny (model P w) A (pyNext (.ref it)) (fun r s1=>∃ u,r=some u /\
   wpAny (model P w) A (letOwnedTupleGo tg (.ref it) u) (fun _ s2=>∃ x H',Inv X pins σ H' s2/\RelV x u/\J.tN i H x H'/\tn (i+1) s2.heap/\∀ b ∈ fp,H' b=none) E s1) E s
 done:∀ (X:Cx),X.prog=P->X.w=w->X.K=K->X.A=A->∀ (i:Nat) (pins:List (Addr×Obj)) (s:Shared) (σ:St) (H:Hp) (E:Value->Shared->Prop),Inv X pins σ H s->(∀ b ∈ fp,eW X pins H b)->tn i s.heap->J.stop i H ->
  wpAny (model P w) A (pyNext (.ref it)) (fun r s1=>r=none/\Inv X pins σ H s1) E s
 self:∀ (A:Around) (i:Nat) (s:Shared) (Q:Value->Shared->Prop) (E:Value->Shared->Prop),tn i s.heap->Q (.ref it) s->wpAny (model P w) A (pyIter (.ref it)) Q E s
def YM (X:Cx)(pins:List (Addr×Obj))(σ:St)(tg:Expr)(R:It->Hp->Prop)(oU:Value)(s2:Shared):Prop :=
 ∃ (it:Addr) (fp:List Addr) (tn:Nat->Heap->Prop) (J:It) (H':Hp),oU=.ref it/\Inv X pins σ H' s2/\Nk X.A X.prog X.w X.K tg J fp it tn/\tn 0 s2.heap/\(∀ b ∈ fp,eW X pins H' b)/\R J H'
def Qp (X:Cx)(tg iter:Expr)(wi:TI):Prop :=
 ∀ (pins:List (Addr×Obj)) (s:Shared) (σ:St) (H:Hp) (R:It->Hp->Prop),Inv X pins σ H s->wi σ H R ->
  wpAny (model X.prog X.w) X.A (eval iter X.env) (fun v s1=>wpAny (model X.prog X.w) X.A (pyIter v) (YM X pins σ tg R) X.xe s1) X.xe s
def Oq (x:Addr)(n:Nat):It:=⟨fun i _=>i<n,fun i H v H'=>H'=H/\v=.int (0+(i:Int)),fun i H=>n<=i/\∃ C d,H x=some (dO x C d)⟩
theorem S6 {A:Around}{P:Program}{w:World}{K:Frag}{tg:Expr}{x:Addr}(hh:A.handled=some (.ref x))(it:Addr)(n:Nat):Nk A P w K tg (Oq x n) [it] it (fun i h=>IsRangeIter h it (0+(i:Nat)*1) ((n:Int)-(i:Nat)) 1) where
 mem:=by simp
 obj:=fun i h st b hb=>by
  have e:b=it:=by simpa using hb
  subst e
  exact ⟨_,st,fun v z=>by
   have z':Data.fields _=Data.cell v:=z
   cases z'⟩
 keep:=fun i h h' st k=>k it (by simp) _ st
 item:=by
  intro X hP hw hK hA i pins s σ H E I hf st hg
  subst hP hw hK
  obtain ⟨f0,f1,f2,f3,f4,f5⟩:=hf it (by simp)
  have hg:i<n:=hg
  refine wpAny_pyNext_range_item st (by omega) fun h' jm sb=>?_
  have I1:Inv X pins σ H { s with heap:=h',toks:=s.toks+1 }:=I.turned (fun b o hb e=>(sb.2 b hb).trans e) f0 f1 f3 f4 f5
  have e1:(0:Int)+((i+1:Nat):Int)*1=0+(i:Int)*1+1:=by push_cast;omega
  have e2:(n:Int)-((i+1:Nat):Int)=(n:Int)-(i:Int)-1:=by push_cast;omega
  have bO:IsRangeIter h' it (0+((i+1:Nat):Int)*1) ((n:Int)-((i+1:Nat):Int)) 1:=by rw [e1,e2];exact jm
  refine ⟨_,rfl,vm (s:={ s with heap:=h',toks:=s.toks+1 }) (n := "range_iterator") bO rfl rfl (by decide) ⟨.int (0+i),H,I1,⟨s.toks,?_⟩,⟨rfl,rfl⟩,bO,fun b hb=>(hf b hb).1⟩⟩
  rw [Int.mul_one]
 done:=by
  intro X hP hw hK hA i pins s σ H E I hf st hg
  subst hP hw hK
  obtain ⟨f0,f1,f2,f3,f4,f5⟩:=hf it (by simp)
  obtain ⟨hn,C,d,hx⟩:=hg
  obtain ⟨⟨o,vs,q1,q2,q3,q4,q5⟩,_,_⟩:=I.aq x _ hx
  exact RU hh ⟨o,vs,q1,q3,q5⟩ st (by omega) fun h' eb=>⟨rfl,I.turned (t':=s.toks) (fun b o hb e=>eb b o hb e) f0 f1 f3 f4 f5⟩
 self:=fun _ _ _ _ _ st h=>wpAny_pyIter_rangeiter st h
def Ye (x:Addr)(ta:TA):TI:=fun σ H R=>ta σ H fun vs H1=>∃ j:Int,vs=[.int j] /\ -(2 ^ 62)<=j/\j<2 ^ 62/\R (Oq x j.toNat) H1
section
variable {X:Cx}{tg:Expr}{x:Addr}
theorem Ut {a:Expr}{ta:TA}{p pos:Pos}(hh:X.A.handled=some (.ref x))(hg:Gl X "range")(hm:X.mg "range" = none)(ha:PA X [a] ta)(hs:starEach [a] X.env=[(false,eval a X.env)]:=by rfl):Qp X tg (.Call (.Name "range" p) [a] [] pos) (Ye x ta):=by
 intro pins s σ H R I h
 refine Call_ (n8 I hg hm boot_range (Me (aj (ha pos pins s σ H _ I h) fun us s1 ⟨vs,H1,I1,r1,q1⟩=>?_) hs rfl))
 obtain ⟨j,e,q1,q2,q⟩:=q1
 subst e
 cases r1 with
 |cons r rr =>
  cases rr
  obtain ⟨t,rfl⟩:=r
  refine call_range_1 ?_
  refine wpAny_pyIter_range (IsRange.new ..) (small_one (by omega) (by omega) q1 q2) ?_
  have I2:=fun (z:Obj) (tk:Nat)=>I1.kept (h':=s1.heap.push z) (t':=tk) fun b o e=>gc _ e
  refine ⟨_,[_],_,_,H1,rfl,(I2 _ _).kept (t':=_) fun b o e=>gc _ e,S6 hh _ j.toNat,?_,fun b hb=>?_,q⟩
  ·have e1:(0:Int)+((0:Nat):Int)*1=0:=by simp
   have e2:((j.toNat:Nat):Int)-((0:Nat):Int)=Builtin.Range.rangeSize 0 j 1:=by rw [rangeSize_one];split<;>omega
   show IsRangeIter _ _ (0+((0:Nat):Int)*1) (((j.toNat:Nat):Int)-((0:Nat):Int)) 1
   rw [e1,e2]
   exact ze _ rfl
  ·rw [mT.mp hb]
   exact (I2 _ _).oE (ee _) ((I2 _ _).aq.fresh (ee _))
end
theorem Xf {X:Cx}{elt tg iter:Expr}{ifs:List Expr}{sc:Scope}{cl:List (Str×Addr)}{own:List Str}{fr:List Nat}{pos:Pos}{wi:TI}{g:TG}{tt:TT}{te:TE}(L:gy X sc cl fr)(hi:Qp X tg iter wi)(hg:∀ C s H ex pn,PG (bE X own fr sc cl C s H ex pn) tg g)(ht:∀ C s H ex pn (pins:List (Addr×Obj)) (s1:Shared) (ak:St) (H1:Hp) (Q:Bool->Hp->Prop),Inv (bE X own fr sc cl C s H ex pn) pins ak H1 s1->tt ak H1 Q ->
   wpAny (model X.prog X.w) X.A (jL ifs (compEnvC sc (cellsFrom (C+1) sc.names cl) C X.env)) (TP (bE X own fr sc cl C s H ex pn) pins ak Q) cy s1)(he:∀ C s H ex pn,PE (bE X own fr sc cl C s H ex pn) elt te)(hs:∀ x,foldedSetIterable iter X.env x=pure x:=by intro _;rfl) :
  PE X (.ListComp elt [⟨tg,iter,ifs,0⟩] sc pos) (qU wi g tt te own fr):=by
 intro pins s σ H Q I h
 rw [eval_ListComp]
 refine abJ (use:=none) rfl hs L.tf L.kind L.names (aj (hi pins s σ H _ I h) fun v s1 h1=>aj h1 fun oU s2 h2=>?_)
 obtain ⟨it,fp,tn,J,H2,e,I2,T,bO,f2,h2⟩:=h2
 subst e
 refine Sk ?_
 have I3:Inv X pins σ (upd H2 s2.heap.objs.size (.lst [])) { s2 with heap:=s2.heap.push { cls:=.type "list",data:=.seq ([]:List Value).toArray } }:=I2.vB (t':=s2.toks) .nil (Cs _)
 have n2:H2 s2.heap.objs.size=none:=I2.fresh
 obtain ⟨W,⟨m0,w0⟩,turn⟩:=h2 _ n2
 have ny:∀ b ∈ fp,b<s2.heap.objs.size:=fun b hb=>by
  obtain ⟨o,eo,_⟩:=T.obj 0 _ bO b hb
  exact lp eo
 have bb:∀ b ∈ fp,eW X pins (upd H2 s2.heap.objs.size (.lst [])) b:=fun b hb=>⟨by rw [ay (xp (ny b hb))];exact (f2 b hb).1,(f2 b hb).2⟩
 generalize fW:({ s2 with heap:=s2.heap.push { cls:=.type "list",data:=.seq ([]:List Value).toArray } }:Shared)=s3 at I3
 have fE:tn 0 s3.heap:=by
  rw [<- fW]
  exact T.keep 0 _ _ bO fun b hb o eo=>gc _ eo
 have iE:∀ b ∈ fp,b<s3.heap.objs.size:=fun b hb=>by
  obtain ⟨o,eo,_⟩:=T.obj 0 _ fE b hb
  exact lp eo
 generalize oY:upd H2 s2.heap.objs.size (.lst [])=H3 at I3 bb w0
 generalize s2.heap.objs.size=acc at turn w0 oY ⊢
 refine wu ?_
 have ig:(pushCells (s3.heap.push { cls:=.type "dict",data:=.dict #[] }) sc.names).Ns s3.heap.objs.size fun _=>none:=(Heap.Ns.new s3.heap (.type "dict")).keeps (OR _ _)
 have kp:∀ b o,s3.heap.get? b=some o->(pushCells (s3.heap.push { cls:=.type "dict",data:=.dict #[] }) sc.names).get? b=some o:=fun b o eo=>OR _ _ b o (gc _ eo)
 have ju:∀ y c,(cellsFrom (s3.heap.objs.size+1) sc.names cl).lookup y=some c->cl.lookup y=some c\/(pushCells (s3.heap.push { cls:=.type "dict",data:=.dict #[] }) sc.names).IsCell c none:=fun y c e =>
  sr sc.names (s3.heap.push { cls:=.type "dict",data:=.dict #[] }) cl y c (by rw [OP];exact e)
 generalize Gk:pushCells (s3.heap.push { cls:=.type "dict",data:=.dict #[] }) sc.names=h4 at ig kp ju
 have I4:=lcInv (own:=own) (tk:=s3.toks) L I3 bb iE ig kp ju
 have kG:tn 0 h4:=T.keep 0 _ _ fE fun b hb o eo=>kp b o eo
 have stat:∀ {H':Hp},(∀ b ∈ fp,H' b=none)->∀ b ∈ fp,eW (bE X own fr sc cl s3.heap.objs.size s3 H3 fp (X.pn++pins)) [] H' b:=fun {H'} hn b hb =>
  ⟨hn b hb,xp (iE b hb),fun z=>(gr.mp (I3.jO b z)).elim (bb b hb).2.1 (bb b hb).2.2.1,.inl hb,fun y c e=>(pL _ _ _ y c e).elim (fun q=>(bb b hb).2.2.2.2.1 y c (L.sub y c q)) fun q=>Nl (rb (iE b hb) (OK q.1)),fun p hp=>(bb b hb).2.2.2.2.2 p (by
   have z:p ∈ (X.pn++pins)++[]:=hp
   simpa using z)⟩
 have loop:codeAny (model X.prog X.w) X.A (.compLoop (.ListComp elt [⟨tg,iter,ifs,0⟩] sc pos) 0 (.ref it) (.ref acc) (compEnvC sc (cellsFrom (s3.heap.objs.size+1) sc.names cl) s3.heap.objs.size X.env))
   (compPost (model X.prog X.w) X.A X.xe none (EP X pins σ Q) (.ref acc) s3.heap.objs.size) { s3 with heap:=h4,toks:=s3.toks }:=by
  refine D7 (fun n s'=>∃ i ys ak H1,Inv (bE X own fr sc cl s3.heap.objs.size s3 H3 fp (X.pn++pins)) [] ak H1 s'/\tn i s'.heap/\(∀ b ∈ fp,H1 b=none)/\W i n ys ak H1) ?_ m0 ⟨0,[],_,H3,I4,kG,fun b hb=>(bb b hb).1,w0⟩
  rintro n s5 ⟨i,ys,fX,H5,I5,cL,jo,w5⟩
  obtain ⟨gO,hlen,hh⟩:=turn i n ys fX H5 w5
  rcases hh with ⟨stop,qn⟩ | ⟨go,N,hN,step⟩
  ·refine aj (T.done (bE X own fr sc cl s3.heap.objs.size s3 H3 fp (X.pn++pins)) rfl rfl rfl rfl i [] s5 fX H5 cy I5 (stat jo) cL stop) fun r s6 ⟨hr,I6⟩=>?_
   subst hr
   obtain ⟨m6,kH,_⟩:=id I6.loc
   refine ⟨m6,kH,fun h7 fY=>⟨.ref acc,H5,?_,rfl,qn⟩⟩
   have old:∀ b o,s3.heap.get? b=some o->b ≠ s3.heap.objs.size:=fun b o eo=>xp (lp eo)
   have u6:Un (bg X.stack) fp H3 H5 s3.heap s6.heap:=I6.base
   have u7:Un (bg X.stack) fp H3 H5 s3.heap h7 :=
    ⟨fun b o eo nn hb hx=>(fY.2 b (old b o eo)).trans (u6.keep b o eo nn hb hx),fun b o eo nn hb hx=>by
     obtain ⟨sl,q⟩:=u6.slot b o eo nn hb hx
     exact ⟨sl,(fY.2 b (old b o eo)).trans q⟩,u6.free,fun b o eo hx=>by
     obtain ⟨o',q⟩:=u6.there b o eo hx
     exact ⟨o',(fY.2 b (old b o eo)).trans q⟩,u6.dJ,u6.dF,u6.dN⟩
   have fC:H5 s3.heap.objs.size=none:=I6.free
   have qC:cV X.prog X.w H5 h7:=fun b ob eb=>by
    refine (I6.aq b ob eb).hJ (fun c w' fT q=>(fY.2 c ?_).trans q) (fun _ q=>q) fun _ _ q=>q
    rintro rfl
    rcases fT with z | z
    ·rw [<- z,fC] at eb;cases eb
    ·rw [fC] at z;cases z
   exact I3.sS (s':={ s6 with heap:=h7 }) I6.os u7 qC I6.bare fun b hb=>⟨(bb b hb).2.2.2.1,(bb b hb).2.1,(bb b hb).2.2.2.2.1,(bb b hb).2.2.2.2.2⟩
  ·refine aj (T.item (bE X own fr sc cl s3.heap.objs.size s3 H3 fp (X.pn++pins)) rfl rfl rfl rfl i [] s5 fX H5 cy I5 (stat jo) cL go) fun r s6 ⟨u,hr,h6⟩=>?_
   subst hr
   refine aj h6 fun _ s7 ⟨x,H7,I7,r7,y7,iF,qV⟩=>?_
   have qW:=I7.pinned (stat qV) (T.obj _ _ iF)
   refine aj (hg _ _ _ _ _ _ s7 fX H7 x u _ qW r7 (step x H7 y7)) fun _ s8 ⟨fZ,H8,I8,q8⟩=>?_
   have again:∀ {zs:List V} {bG:St} {H9:Hp} {s9:Shared},Inv (bE X own fr sc cl s3.heap.objs.size s3 H3 fp (X.pn++pins)) ([]++oh fp s7.heap) bG H9 s9->N zs bG H9 ->
     ∃ m,m<n/\∃ i ys ak H1,Inv (bE X own fr sc cl s3.heap.objs.size s3 H3 fp (X.pn++pins)) [] ak H1 s9/\tn i s9.heap/\(∀ b ∈ fp,H1 b=none)/\W i m ys ak H1:=fun {zs bG H9 s9} I9 n9=>by
    obtain ⟨m',hm,w9⟩:=hN zs bG H9 n9
    refine ⟨m',hm,i+1,zs,bG,H9,I9.pO,T.keep _ _ _ iF fun b hb o e=>(I9.pin (b,o) (ff _ (ff _ (lh hb e)))).1,fun b hb=>?_,w9⟩
    obtain ⟨o,e,d⟩:=T.obj _ _ iF b hb
    exact (I9.pin (b,o) (ff _ (ff _ (lh hb e)))).2.1
   refine aj (ht _ _ _ _ _ _ s8 fZ H8 _ I8 q8) fun ok s9 ⟨H9,I9,q9⟩=>?_
   cases ok with
   |false=>exact again I9 (by simpa using q9)
   |true =>
    refine aj (he _ _ _ _ _ _ s9 fZ H9 _ I9 q9) fun z iG ⟨y,qX,ef,nz,j9,qY⟩=>?_
    refine aj (kf _ iG fZ qX (.ref acc) [y] (.ref acc) [z] (fun _ H'=>N (ys++[y]) fZ H') ef rfl (.cons nz .nil) ⟨acc,ys,y,rfl,rfl,j9,hlen,qY⟩) fun _ Gm ⟨_,Gp,qZ,_,ra⟩=>again qZ ra
 rw [<- fW] at loop ⊢
 exact abp loop (lV (T.self _ 0 _ _ _ kG (by rw [fW];rw [fW] at loop;exact loop)))
structure qu (k:Nat) (A:Around):Prop where
 dp:A.depth+3*k+5<recursionLimit
 un:A.units+16*k+200<cLine
theorem dk.h {k:Nat}{A:Around}(r:dk k A)(v:Option Value):qu k (A.mark v):=⟨r.dp,r.un⟩
theorem qu.mono {j k:Nat}{A:Around}(r:qu k A)(h:j<=k):qu j A:=⟨by have:=r.dp;omega,by have:=r.un;omega⟩
def yR (P:Program)(w:World)(K:Frag)(mg:Str->Option Value)(base:Heap)(N:List Str)(qual:Str)(sc:Scope)(f:Addr)(cd:Value)(A:Around)(outer:List Env)(s:Shared)(H:Hp):Cx :=
 { (bj aG P w K mg base N qual sc f cd A outer s H fun _ _ _=>False).du with calm:=false }
structure xU (P:Program) (w:World) (K:Frag) (mg:Str->Option Value) (base:Heap) (k:Nat) (f:Addr) (fd:FuncData) (ps:List Str) (sp:Addr->Sp):Prop where
 len:∀ x vs H Q E,sp x vs H Q E->vs.length=ps.length
 run:∀ (x:Addr) (A:Around) (outer:List Env) (s:Shared) (H:Hp) (args:Args) (us:List Value) (vs:List V) (Q:VK),A.handled=some (.ref x)->qu k A->m9 P w K mg base A outer s H->BindsTo s fd args (ps.zip us)->Vals vs us->sp x vs H Q (fun _ _ _=>False) ->
  codeAny (model P w) A (.call (.ref f) args) (CR aG outer P w H s Q fun _ _ _=>False) s
section
variable {P:Program}{w:World}{K:Frag}{mg:Str->Option Value}{base:Heap}
theorem iC.okH {x qual:Str}{st:Stmt}{dV:Value}{f:Addr}{fd:FuncData}{N ps:List Str}{k:Nat}{sp:Addr->Sp}(F:iC K x qual st dV f fd)(S:cH N ps (aD st))(len:∀ x vs H Q E,sp x vs H Q E->vs.length=ps.length)(qf:∀ (x:Addr) (az:Value) (A:Around) (outer:List Env) (s:Shared) (H:Hp) (vs:List V) (Q:VK),(A.deeper (envOfC qual (aD st) s.heap.objs.size f az)).handled=some (.ref x)->qu k (A.deeper (envOfC qual (aD st) s.heap.objs.size f az))->sp x vs H Q (fun _ _ _=>False) ->
   ∃ t,df (yR P w K mg base N qual (aD st) f az A outer s H) (bR st) t/\t { nx:=fun _ H'=>Q .aN H',rt:=Q } (start N vs) H):xU P w K mg base (k+1) f fd ps sp:=by
 obtain ⟨oc,od,kV,doc,pm,an,az,ct,gS,rfl,lk,ie⟩:=F.ex
 refine ⟨len,fun x A outer s H args us vs Q hh hr e0 hb r jq=>?_⟩
 have hl:=len _ _ _ _ _ jq
 have kx:K.In s.heap:=e0.mod.nk.keeps fun b o e=>(e0.bs b o e).1
 have lim:s.heap.NoLimit:=e0.mod.nolimit.keeps fun b o e=>(e0.bs b o e).1
 have hk:∀ y ∈ ps.zip us,(aD st).names.lookup y.1=some .local\/((aD st).names.lookup y.1=some .cell/\((cellsFrom (s.heap.objs.size+1) (aD st).names []).lookup y.1).isSome=true):=fun ⟨n,v⟩ hy=>by
  rcases S.par n (abr hy).1 with q | q
  ·exact .inl q
  ·exact .inr ⟨q,ab2 _ _ _ (.inl q)⟩
 refine codeAny_call_function (by have:=hr.dp;omega) (kx _ _ lk) rfl S.co S.gen rfl (PySem.W.codeRec_of kx ie) (hb _ _ _ _ ?_)
 refine wpAny_newFunctionEnv_cells S.kind hk fun env he s1 z=>?_
 subst he
 refine ⟨lim.keeps z.toInCall.keep,codeAny_func ?_⟩
 obtain ⟨t,ht,hq⟩:=qf x az A outer s H vs Q hh ⟨by have:=hr.dp;show A.depth+1+3*k+5<_;omega,by have:=hr.un;show A.units+3+16*k+200<_;omega⟩ jq
 have e1:m9 P w K mg base { A with handled:=none } outer s H:=⟨e0.frames,e0.mod,e0.bs,e0.iW,e0.eu,e0.gR,e0.aq,e0.bare⟩
 have I0:=JT (CX:=aG) (f:=f) (cd:=az) (E:=fun _ _ _=>False) S (A:={ A with handled:=none }) rfl e1 hl r z
 have I:Inv (yR P w K mg base N qual (aD st) f az A outer s H) [] (start N vs) H s1 :=
  ⟨⟨I0.ok.mod,I0.ok.kind,I0.ok.glob,I0.ok.blt,I0.ok.above,I0.ok.inj,I0.ok.has,I0.ok.lS,fun z=>Bool.noConfusion z,I0.ok.frames,I0.ok.j8,I0.ok.qO,I0.ok.bs,I0.ok.iW,I0.ok.lM,I0.ok.m5,I0.ok.eu,I0.ok.gR⟩,I0.os,I0.bare,I0.base,I0.loc,I0.cell,I0.free,I0.gJ,I0.pin,I0.aq,I0.len⟩
 refine ET (ht [] s1 (start N vs) H _ I hq) (fun fl s' hs=>?_) fun e s' hs=>hs.elim
 cases fl with
 |ret u =>
  obtain ⟨v,aA,H',J,rv,q⟩:=hs
  exact ⟨v,H',J.os,J.bare,J.base,J.aq,rv,q⟩
 |next =>
  obtain ⟨aA,H',J,q⟩:=hs
  exact ⟨V.aN,H',J.os,J.bare,J.base,J.aq,rfl,q⟩
 |brk =>
  obtain ⟨_,_,_,q⟩:=hs
  exact False.elim q
 |cont =>
  obtain ⟨_,_,_,q⟩:=hs
  exact False.elim q
end
def MD (sp:Sp)(t:TA):TE:=fun σ H Q=>t σ H fun vs H1=>sp vs H1 Q fun _ _ _=>False
theorem U8 {X:Cx}{k:Nat}{f x:Addr}{fd:FuncData}{ps:List Str}{sp:Addr->Sp}{g:Str}{p pos:Pos}{e:Expr}{es:List Expr}{t:TA}(F:xU X.prog X.w X.K X.mg X.base k f fd ps sp)(hh:X.A.handled=some (.ref x))(hr:qu k X.A)(hg:Gl X g)(hm:X.mg g=some (.ref f))(hk:keepIn X.K (.ref f)=true)(hb:Binds X.K fd ps [])(ha:PA X (e::es) t)(hdb:(g==("__debug__" : Str))=false:=by decide)(he:starEach (e::es) X.env=(false,eval e X.env)::starEach es X.env:=by rfl)(cv:(backTo pos (starEach es X.env)).any (·.1)=false:=by rfl) :
  PE X (.Call (.Name g p) (e::es) [] pos) (MD (sp x) t):=by
 intro pins s σ H Q I h
 refine US (pS I hg hm ?_ hdb)
 refine callWith_K (h₀:=X.base) I.ok.mod.nk hk (aj (ha pos pins s σ H _ I h) fun us s1 ⟨vs,H1,I1,r,q⟩=>⟨I1.cB,?_⟩) he cv
 have hl:(us++[]).length=ps.length:=by rw [CS,<- r.length];exact F.len _ _ _ _ _ q
 have fH:=hb s1 us I1.cB hl
 rw [CS] at fH
 refine abH (YE (F.run x X.A X.stack s1 H1 ⟨us,[]⟩ us vs Q hh hr I1.yf fH r q) fun r s' hq=>?_)
 cases r with
 |error e=>exact False.elim hq
 |ok fl =>
  cases fl with
  |ret u=>exact I1.after hq
  |next=>exact False.elim hq
  |brk=>exact False.elim hq
  |cont=>exact False.elim hq
def LV (X:Cx)(E:XK):Prop:=∀ (pins:List (Addr×Obj)) (σ:St) (H1:Hp) (s1:Shared) (h':Heap) (e C:Addr) (args:List Value),Inv X pins σ H1 s1->Heap.MadeExcOf s1.heap h' e (.ref C) args->E (.ref C) (some e) (upd H1 e (dO e C none))->X.xe (.ref e) { s1 with heap:=h' }
section
variable {P:Program}{w:World}{K:Frag}{mg:Str->Option Value}{base:Heap}{N:List Str}{qual:Str}{sc:Scope}{f:Addr}{cd:Value}{A:Around}{outer:List Env}{s:Shared}{H:Hp}{E:XK}
theorem Tu:LV (bj (bq P w) P w K mg base N qual sc f cd A outer s H E) E:=by
 intro pins σ H1 s1 h' e C args I hx hE
 show wpAny (model P w) (A.deeper (envOfC qual sc s.heap.objs.size f cd)) (leaving (envOfC qual sc s.heap.objs.size f cd) (.ref e)) _ _ _
 have hL:∀ b o,s.heap.get? b=some o->b ∉ bg outer->b ∉ bg (envOfC qual sc s.heap.objs.size f cd::outer):=fun b o q hb z=>by
  rcases gr.mp (I.jO b z) with z | z
  ·have lt:=rb (lp q) I.ok.above
   rw [z] at lt
   exact absurd lt (LM _)
  ·exact hb z
 have nex:H1 e=none:=by
  cases q:H1 e with
  |none=>rfl
  |some o =>
   obtain ⟨u,hu⟩:=(I.aq e o q).there
   rw [hx.new] at hu
   cases hu
 have FF:s1.heap.FunFrames (hideAll s1.heap (bg (envOfC qual sc s.heap.objs.size f cd::outer))) (envOfC qual sc s.heap.objs.size f cd::outer):=PySem.W.funFrames_hide I.stack Mu
 have qF:=wpAny_leaves_madeW (M:=model P w) (A:=A.deeper (envOfC qual sc s.heap.objs.size f cd)) (s:={ s1 with heap:=h' }) (E:=fun e' e8=>bq P w outer H s E e' e8) (Q:=fun _ s2=>∃ h2 t,s2={ s1 with heap:=h2 }/\Heap.FlyingW (hideAll s1.heap (bg (envOfC qual sc s.heap.objs.size f cd::outer))) outer e (.ref C) (.ref t) h2/\h'.UpToSlots h2)
  (base:=hideAll s1.heap (bg (envOfC qual sc s.heap.objs.size f cd::outer))) (h:=s1.heap) (args:=args) I.ok.frames rfl (fun b o q=>acz _ q) FF hx fun h2 t x1 x2 x3 x4=>⟨h2,t,rfl,x1,x4⟩
 obtain ⟨t,ho,_⟩:=hx.there
 have qG:wpAny (model P w) (A.deeper (envOfC qual sc s.heap.objs.size f cd)) (leaving (envOfC qual sc s.heap.objs.size f cd) (.ref e)) (fun _ s2=>gv s2.heap e none) (fun _ _=>True) { s1 with heap:=h' }:=by
  unfold leaving
  exact ba (ET (JD (s:={ s1 with heap:=h' }) I.ok.frames (FF.of_keeps fun b o hb _=>⟨o,hx.keeps b o hb,rfl⟩) rfl ho rfl rfl rfl rfl) (fun _ _ z=>rY z) fun _ _ z=>z)
 refine two qF qG ?_
 rintro _ _ ⟨h2,t2,rfl,x1,x4⟩ tr
 refine ⟨e,C,none,H1,rfl,⟨I.os,I.bare,⟨_,_,x1,UY I,fun b o q n hb=>?_,fun b o q hb=>?_⟩,fun b o q hb=>?_,fun b o q n=>I.base.free b o q n (by simp [bj]),I.base.dJ,I.base.dF,I.base.dN,nex⟩,tr,hE⟩
 ·exact ab5 _ (I.base.keep b o q n hb (by simp [bj])) (hL b o q hb)
 ·obtain ⟨o',q'⟩:=I.base.there b o q (by simp [bj])
  exact ⟨o',ab5 _ q' (hL b o q hb)⟩
 ·have n0:=I.ok.gR b hb
  obtain ⟨sl,q1⟩:=I.base.slot b o q n0 hb (by simp [bj])
  obtain ⟨_,o2,dw,hd2⟩:=I.ok.eu.mem hb
  have e2:o2=o:=by
   rw [show (bj (bq P w) P w K mg base N qual sc f cd A outer s H E).bW=s from rfl,q] at dw
   exact (AE dw).symm
  subst e2
  obtain ⟨aL,q2⟩:=x4 b _ (hx.keeps _ _ q1) hd2
  exact ⟨aL,q2⟩
end
def LW (C:Addr)(E:XK)(ta:TA):TS:=fun _ σ H=>ta σ H fun vs H1=>vs.length<=sizeLine/\∀ e,H1 e=none->E (.ref C) (some e) (upd H1 e (dO e C none))
section
variable {X:Cx}{E:XK}{C:Addr}{x:Str}{np cY pos:Pos}{nj:Expr}{rest:List Expr}{ta:TA}
theorem Uu (R:LV X E)(hc:X.calm=true)(hg:Gl X x)(hm:X.mg x=some (.ref C))(q:excIn X.K C dq "ValueError.__new__" = true)(ha:PA X (nj::rest) ta)(he:starEach (nj::rest) X.env=(false,eval nj X.env)::starEach rest X.env:=by rfl)(cv:(backTo cY (starEach rest X.env)).any (·.1)=false:=by rfl)(hdb:(x==("__debug__" : Str))=false:=by decide) :
  PS X (.Raise (some (.Call (.Name x np) (nj::rest) [] cY)) none pos) (LW C E ta):=by
 intro pins s σ H D I h
 obtain ⟨bm,N,nm,qn,bs,hdct,sn,sub,ab,col,dd,k0,k1,k2,k3,k5,mN,hC,hN,GY,T⟩:=Lv I.mod.nk q
 refine wpAny_Raise_call_subT (C:=C) (nm:=nm) (q:=qn) (N:=N) (bs:=bs) (bm:=bm) (hdct:=hdct) (sn:=sn) (sub:=sub) (ab:=ab) (col:=col) (dd:=dd) (k0:=k0) (k1:=k1) (k2:=k2) (k3:=k3) (k5:=k5) aby (mN:=mN)
  (T.hasType aby.hasBase) (I.ok.hd hc) ?_ GY (pS I hg hm ⟨rfl,?_⟩ hdb)
 ·rw [he]
  show (false || (backTo cY (starEach rest X.env)).any (·.1))=false
  rw [cv]
  rfl
 ·have h1:=ha cY pins s σ H _ I h
  rw [he] at h1 ⊢
  refine abz (aj h1 fun us s2 ⟨vs,H1,I1,r1,hl,q1⟩=>⟨rfl,by rw [<- r1.length];exact hl,I1.bk _ _ hC,hN.keeps I1.bk,T.keeps I1.bk,fun h' e tQ=>?_⟩)
  refine R pins σ H1 s2 h' e C us I1 tQ (q1 e ?_)
  cases z:H1 e with
  |none=>rfl
  |some o =>
   obtain ⟨u,hu⟩:=(I1.aq e o z).there
   rw [tQ.new] at hu
   cases hu
end
def gX (G H:Hp)(C:Addr)(E:XK):Prop:=∀ x G' H',Step G H G' H'->H' x=none->E (.ref C) (some x) (upd H' x (dO x C none))
section
variable (P:Program) (w:World) (K:Frag) (mg:Str->Option Value) (base:Heap) (N:List Str) (qual:Str) (sc:Scope) (f:Addr) (k:Nat)
def kc (bh:List Stmt)(ρ:En)(C:Addr):Prop:=∃ τ:nH k qual sc f->TS,(∀ i,df (bF P w K mg base N qual sc f k i) bh (τ i))/\∀ i D σ G0 H0 G H,RS K G0 H0 G H ρ σ->gX G0 H0 C i.E->τ i D σ H
end
section
variable {P:Program}{w:World}{K:Frag}{mg:Str->Option Value}{base:Heap}{N:List Str}{qual:Str}{sc:Scope}{f:Addr}{k:Nat}{ρ ρ1:En}{st:Stmt}{bh A B:List Stmt}{C:Addr}{c:Expr}{pos:Pos}
theorem mE {x n:Str}{j:Nat}{np cY YN:Pos}(hm:mg x=some (.ref C))(q:excIn K C dq "ValueError.__new__" = true)(hg:∀ i,Gl (bF P w K mg base N qual sc f k i) x:=by intro _;rfl)(hdb:(x==("__debug__" : Str))=false:=by decide):kc P w K mg base N qual sc f k (.Raise (some (.Call (.Name x np) [.Constant (.str n) j YN] [] cY)) none pos::bh) ρ C:=by
 refine ⟨fun i=>cq (LW C i.E (aT (tC (.str n)) ck)) iy,fun i=>bM (Uu (X:=bF P w K mg base N qual sc f k i) Tu rfl (hg i) hm q (au xv aV) (hdb:=hdb)) iZ,fun i D σ G0 H0 G H r kx=>?_⟩
 obtain ⟨fp,r⟩:=r
 have big : 1<=sizeLine:=by decide
 exact ⟨big,fun e he=>kx e G H r.st he⟩
end
def Nn (K:Frag)(D:Addr)(i:Nat)(tb:(St->XK)->TS)(th:Addr->TS):TS:=fun F σ H =>
 tb (fun ak c ax H1=>∃ x C,c=.ref C/\ax=some x/\subIn K (.ref C) (.ref D)=some true /\
  th x { nx:=fun bB H2=>F.nx (bB.set i none) H2,rt:=F.rt,bk:=fun bB H2=>F.bk (bB.set i none) H2,ct:=fun bB H2=>F.ct (bB.set i none) H2 } (ak.set i (some (.ref x))) H1) F σ H
section
variable {X:Cx}{D:Addr}{i:Nat}{n x:Str}{np hpos pos:Pos}{body suite:List Stmt}{b₀:Stmt}{tb:(St->XK)->TS}{th:Addr->TS}{L:Addr}{outer:List Env}
theorem V7 (hN:X.N.Nodup)(hi:X.N[i]?=some n)(hl:X.env.scope.names.lookup n=some .local)(dQ:X.stack=X.env::outer)(eB:X.env.frame=some L)(hex:X.ex=[])(hg:Gl X x)(hm:X.mg x=some (.ref D))(ht:typeIn X.K (.ref D)=some (.type "type"))(hD:isClsIn X.K D=true)(hb:subIn X.K (.ref D) (.type "BaseException")=some true)(DK:∀ (E:St->XK) (XE:Value->Shared->Prop) (pn:List (Addr×Obj)),xg (bq X.prog X.w) (X.jU XE pn) E->df (X.jU XE pn) body (tb E))(C9:∀ a,df (X.suite (.ref a)) (b₀::suite) (th a))(hdb:(x==("__debug__" : Str))=false:=by decide) :
  PS X (.Try body [.ExceptHandler (some (.Name x np)) (some n) (b₀::suite) hpos] [] [] pos) (Nn X.K D i tb th):=by
 intro pins s σ H F I h
 refine wpAny_Try_except ?_
 let XE:Value->Shared->Prop:=fun e bf=>wpAny (model X.prog X.w) X.A (noteFrame e X.env) (fun _ je=>wpAny (model X.prog X.w) X.A (setFlight e none) (fun _ tj =>
  wpAny (model X.prog X.w) X.A (handleBy e X.env [.ExceptHandler (some (.Name x np)) (some n) (b₀::suite) hpos]) (SP X pins F) X.xe tj) X.xe je) X.xe bf
 have EB:=DK _ XE (X.pn++pins) ?pass [] s σ H F (I.jU XE) h
 case pass =>
  rintro mU ak H1 s1 ev s' I1 ⟨a,C,d0,H',rfl,fl,GZ,a',C',e1,e2,vC,rh⟩
  cases e1
  cases e2
  have kJ:Inv X pins ak H1 s1:=I1.kq
  obtain ⟨B,a0,fw,ok,kp,vU⟩:=fl.ex
  have yE:Heap.FlyingW B (X.env::outer) a (.ref C) a0 s'.heap:=dQ ▸ fw
  show wpAny (model X.prog X.w) X.A (noteFrame (.ref a) X.env) _ _ _
  refine two (Q:=fun _ s4=>∃ h4,s4={ s' with heap:=h4 }/\Heap.HeldW B (X.env::outer) a (.ref C) a0 L h4/\s'.heap.UpToSlots h4) (wpAny_looks_onW (dQ ▸ I.ok.frames) eB yE fun tm uK qk=>⟨tm,rfl,uK,qk⟩) (Cy (E:=fun _ _=>True) (dQ ▸ I.ok.frames) eB yE GZ) ?_
  rintro _ _ ⟨tm,rfl,uK,qk⟩ Xg
  refine two (Q:=fun _ s5=>∃ h5,s5={ s' with heap:=h5 }/\Heap.FlyingW B (X.env::outer) a (.ref C) a0 h5/\tm.UpToSlots h5) (wpAny_landsW uK fun tq mV qo=>⟨tq,rfl,mV,qo⟩) (rY (E:=fun _ _=>True) Xg) ?_
  rintro _ _ ⟨tq,rfl,mV,qo⟩ Xh
  have next:∀ h6,Heap.FlyingW B (X.env::outer) a (.ref C) a0 h6->s'.heap.UpToSlots h6->Inv X pins ak H' { s' with heap:=h6 }:=fun h6 Gr rj=>by
   have Gs:s'.heap.FunFrames B X.stack:=fw.2.2.1
   refine kJ.Gq (x:=a) (C:=C) ⟨fl.os,fl.bare,⟨B,a0,dQ ▸ Gr,ok,kp,vU⟩,fun b o q hb=>?_,fl.free,fl.dJ,fl.dF,fl.dN,fl.du⟩
   obtain ⟨sl,q1⟩:=fl.slot b o q hb
   obtain ⟨_,o2,dw,hd2⟩:=Gs.mem hb
   rw [q1] at dw
   cases dw
   obtain ⟨aL,q2⟩:=rj b _ q1 hd2
   exact ⟨aL,q2⟩
  have I5:=next tq mV (qk.trans qo)
  obtain ⟨oe,he,Gu⟩:=mV.there
  refine wpAny_handleBy_cons (codeAny_handlers_test ?_) (by intro q;cases q)
  refine SO I.ok.kind hg (abR (by rw [I.ok.glob];exact I5.mod.glob.keeps I5.bk) hm ?_) hdb
  refine Jx (K:=X.K) I5.cB he Gu ht hD hb vC ?_
  refine codeAny_handlers_suite_as ?_
  refine two (Q:=fun _ s6=>∃ h6,s6={ s' with heap:=h6 }/\Heap.FlyingW B (X.env::outer) a (.ref C) a0 h6/\tq.UpToSlots h6) (lands_againW mV fun lN mW vp=>⟨lN,rfl,mW,vp⟩) (rY (E:=fun _ _=>True) Xh) ?_
  rintro _ _ ⟨lN,rfl,mW,vp⟩ Xi
  have I6:=next lN mW ((qk.trans qo).trans vp)
  obtain ⟨tR,yF,o7,Gv,tS,h06⟩:=mW.first
  have hx6:tR.dict=d0/\yF[2]?=some .none:=by
   obtain ⟨o,vs,T,oT,ts,z,z1,z2,_⟩:=Xi
   have z:lN.get? a=some o:=z
   rw [o7] at z
   cases z
   rw [tS] at z1
   cases z1
   exact z2
  have ka:∀ b o,s1.heap.get? b=some o->b ≠ a:=fun b o q z=>by
   subst z
   by_cases hb:b ∈ bg X.stack
   ·obtain ⟨_,o2,dw,hd2⟩:=(show lN.FunFrames B X.stack from dQ ▸ mW.2.2.1).mem hb
    rw [o7] at dw
    cases dw
    exact hd2 _ tS
   ·obtain ⟨o',q'⟩:=vU b o q hb
    rw [fw.2.1] at q'
    cases q'
  have h0:X.bW.heap.get? a=none:=by
   cases q:X.bW.heap.get? a with
   |none=>rfl
   |some o =>
    obtain ⟨o',q'⟩:=kJ.base.there a o q (by rw [hex];simp)
    exact absurd rfl (ka a o' q')
  have I7:Inv X pins ak (upd H' a (dO a C d0)) { s' with heap:=lN }:=by
   refine I6.EA fl.du h0 (fun z=>?_) (fun y c e z=>?_) (fun p hp z=>?_) ⟨⟨tR,yF,o7,Gv,tS,hx6⟩,⟨tR,o7⟩,fun h1 h2 ⟨o,vs,q1,q2⟩ k=>⟨o,vs,k _ q1,q2⟩⟩
   ·obtain ⟨m,⟨o,_,_,ho,_⟩,_⟩:=kJ.loc
    exact ka _ o ho z.symm
   ·obtain ⟨v,o,ho,_⟩:=kJ.cell y c e
    exact ka c o ho z
   ·exact ka p.1 p.2 (kJ.pin p hp).1 z
  refine wH I7 hN hi (.inl hl) (v:=.ref a) rfl (fun s8 I8=>?_) (.inr hl)
  refine ET (C9 a pins s8 _ _ _ (I8.suite (.ref a)) rh) (fun rk s9 hq=>?_) (fun _ _ z=>False.elim z)
  have nC:X.calm=true->X.A.handled=none:=I.ok.hd
  cases rk with
  |next =>
   obtain ⟨bG,H9,I9,q9⟩:=hq
   exact (I9.nW nC).oG hN hi hl fun iG ef=>⟨_,_,ef,q9⟩
  |brk =>
   obtain ⟨bG,H9,I9,q9⟩:=hq
   exact (I9.nW nC).oG hN hi hl fun iG ef=>⟨_,_,ef,q9⟩
  |cont =>
   obtain ⟨bG,H9,I9,q9⟩:=hq
   exact (I9.nW nC).oG hN hi hl fun iG ef=>⟨_,_,ef,q9⟩
  |ret u =>
   obtain ⟨v,bG,H9,I9,r9,q9⟩:=hq
   exact (I9.nW nC).oG hN hi hl fun iG ef=>⟨v,_,_,ef,r9,q9⟩
 refine ET EB (fun rk s9 hq=>?_) (fun e s9 z=>z)
 cases rk with
 |next =>
  obtain ⟨bG,H9,I9,q9⟩:=hq
  exact abS ⟨bG,H9,I9.kq,q9⟩
 |brk =>
  obtain ⟨bG,H9,I9,q9⟩:=hq
  exact ⟨bG,H9,I9.kq,q9⟩
 |cont =>
  obtain ⟨bG,H9,I9,q9⟩:=hq
  exact ⟨bG,H9,I9.kq,q9⟩
 |ret u =>
  obtain ⟨v,bG,H9,I9,r9,q9⟩:=hq
  exact ⟨v,bG,H9,I9.kq,r9,q9⟩
end
section
variable {P:Program}{w:World}{K:Frag}{mg:Str->Option Value}{base:Heap}{N:List Str}{qual:Str}{sc:Scope}{f:Addr}{cd:Value}{A:Around}{outer:List Env}{s:Shared}{H:Hp}{E:XK}
theorem Tv:Passes (bq P w) (bj (bq P w) P w K mg base N qual sc f cd A outer s H E) E:=by
 rintro pins σ H1 s1 ev s' I ⟨x,C,d,H',rfl,F,tr,hE⟩
 show wpAny (model P w) (A.deeper (envOfC qual sc s.heap.objs.size f cd)) (leaving (envOfC qual sc s.heap.objs.size f cd) (.ref x)) _ _ _
 have hL:∀ b o,s.heap.get? b=some o->b ∉ bg outer->b ∉ bg (envOfC qual sc s.heap.objs.size f cd::outer):=fun b o q hb z=>by
  rcases gr.mp (I.jO b z) with z | z
  ·have lt:=rb (lp q) I.ok.above
   rw [z] at lt
   exact absurd lt (LM _)
  ·exact hb z
 obtain ⟨B,a0,fl,ok,kp,th⟩:=F.ex
 have qF:=wpAny_leaves_onW (M:=model P w) (A:=A.deeper (envOfC qual sc s.heap.objs.size f cd)) (s:=s') (E:=fun e' e8=>bq P w outer H s E e' e8) (Q:=fun _ s2=>∃ h2,s2={ s' with heap:=h2 }/\Heap.FlyingW B outer x (.ref C) a0 h2/\s'.heap.UpToSlots h2) I.ok.frames rfl fl fun h2 y1 y2=>⟨h2,rfl,y1,y2⟩
 have qG:wpAny (model P w) (A.deeper (envOfC qual sc s.heap.objs.size f cd)) (leaving (envOfC qual sc s.heap.objs.size f cd) (.ref x)) (fun _ s2=>gv s2.heap x d) (fun _ _=>True) s':=by
  unfold leaving
  exact ba (ET (Cy I.ok.frames rfl fl tr) (fun _ _ z=>rY z) fun _ _ z=>z)
 refine two qF qG ?_
 rintro _ _ ⟨h2,rfl,y1,y2⟩ v9
 refine ⟨x,C,d,H',rfl,⟨F.os.trans I.os,F.bare,⟨B,a0,y1,ok,fun b o q n hb=>?_,fun b o q hb=>?_⟩,fun b o q hb=>?_,fun b o q n=>?_,fun b xs q=>F.dJ b xs (I.base.dJ b xs q),fun b o u q=>F.dF b o u (I.base.dF b o u q),fun b ps q=>?_,F.du⟩,v9,hE⟩
 ·exact kp b o (I.base.keep b o q n hb (by simp [bj])) (I.base.free b o q n (by simp [bj])) (hL b o q hb)
 ·obtain ⟨o',q'⟩:=I.base.there b o q (by simp [bj])
  exact th b o' q' (hL b o q hb)
 ·have n0:=I.ok.gR b hb
  obtain ⟨sl,q1⟩:=I.base.slot b o q n0 hb (by simp [bj])
  have mh:b ∈ bg (envOfC qual sc s.heap.objs.size f cd::outer):=by
   obtain ⟨env,he,hf⟩:=ID.mp hb
   exact ID.mpr ⟨env,LH _ he,hf⟩
  obtain ⟨yS,q2⟩:=F.slot b _ q1 mh
  obtain ⟨_,o2,dw,hd2⟩:=I.ok.eu.mem hb
  have e2:o2=o:=by
   rw [show (bj (bq P w) P w K mg base N qual sc f cd A outer s H E).bW=s from rfl,q] at dw
   exact (AE dw).symm
  subst e2
  obtain ⟨aL,q3⟩:=y2 b _ q2 hd2
  exact ⟨aL,q3⟩
 ·obtain ⟨o',q'⟩:=I.base.there b o q (by simp [bj])
  exact F.free b o' q' (I.base.free b o q n (by simp [bj]))
 ·obtain ⟨m1,e1⟩:=I.base.dN b ps q
  obtain ⟨m2,e2⟩:=F.dN b _ e1
  exact ⟨m1++m2,by rw [e2,acA]⟩
end
def dP (K:Frag)(R:List Dv->(Hp->Hp->XK->Prop)->Prop):Sp:=fun vs H _ E=>∃ G ds Ξ,ai G H/\aU K G ds vs/\R ds Ξ/\Ξ G H E
def Later (Ξ:Hp->Hp->XK->Prop):Prop:=∀ G H G' H' E,Step G H G' H'->Ξ G H E->Ξ G' H' E
theorem pX {C:Addr}:Later fun G H E=>gX G H C E:=fun _ _ _ _ _ st k x G' H' s' h=>k x G' H' (st.trans s') h
theorem sv {C:Addr}{n:Str}{v:V}:Later fun G H E=>pd G H C n v E:=fun _ _ _ _ _ st k x dx G' H' s' h1 h2 h3=>k x dx G' H' (st.trans s') h1 h2 h3
section
variable (P:Program) (w:World) (K:Frag) (mg:Str->Option Value) (base:Heap) (N:List Str) (qual:Str) (sc:Scope) (f:Addr) (k:Nat)
def jA (bh:List Stmt)(ρ:En)(Ξ:Hp->Hp->XK->Prop):Prop:=∃ τ:nH k qual sc f->TS,(∀ i,df (bF P w K mg base N qual sc f k i) bh (τ i))/\∀ i D σ G0 H0 G H,RS K G0 H0 G H ρ σ->Ξ G0 H0 i.E->τ i D σ H
end
section
variable {P:Program}{w:World}{K:Frag}{mg:Str->Option Value}{base:Heap}{N:List Str}{qual:Str}{sc:Scope}{f:Addr}{k:Nat}{ρ ρ1:En}{st:Stmt}{bh A B:List Stmt}{C:Addr}{c:Expr}{pos:Pos}{Ξ:Hp->Hp->XK->Prop}
theorem kc.g (h:kc P w K mg base N qual sc f k bh ρ C):jA P w K mg base N qual sc f k bh ρ fun G H E=>gX G H C E:=h
theorem v8.g {n:Str}{v:V}(h:v8 P w K mg base N qual sc f k bh ρ C n v):jA P w K mg base N qual sc f k bh ρ fun G H E=>pd G H C n v E:=h
theorem fN (h1:Rn (eL P w K mg base N qual sc f k) st ρ (.nx ρ1))(h2:jA P w K mg base N qual sc f k bh ρ1 Ξ):jA P w K mg base N qual sc f k (st::bh) ρ Ξ:=by
 obtain ⟨τ,x,y⟩:=h1
 obtain ⟨bX,x',y'⟩:=h2
 exact ⟨fun i=>cq τ (bX i),fun i=>bM (PS.du (x i)) (x' i),fun i D σ G0 H0 G H r kx=>y _ σ G0 H0 G H r fun ak G1 H1 r1=>y' i D ak G0 H0 G1 H1 r1 kx⟩
theorem kn (hc:cG (eL P w K mg base N qual sc f k) c ρ true)(h:jA P w K mg base N qual sc f k A ρ Ξ):jA P w K mg base N qual sc f k (.If c A B pos::bh) ρ Ξ:=by
 obtain ⟨τ,y,z⟩:=hc
 obtain ⟨bX,x',y'⟩:=h
 refine ⟨fun i=>cq (gN τ (bX i) iy) iy,fun i=>bM (i7 (PT.du (y i)) (x' i) iZ) iZ,fun i D σ G0 H0 G H r kx=>?_⟩
 obtain ⟨fp,r⟩:=r
 exact z σ G H fp _ r.st.s r.own r.g fun G1 H1 s1=>jX (y' i _ σ G0 H0 G1 H1 ⟨fp,r.st.trans s1,r.own.mono s1.g s1.h,r.own.off s1 r.g,r.n,r.d⟩ kx)
theorem DN {g:Str}{j:Nat}{f':Addr}{nI:FuncData}{nJ:List Str}{R:List Dv->(Hp->Hp->XK->Prop)->Prop}{e:Expr}{es:List Expr}{ts:List Tr}{p2 p3:Pos}(Fn:Kn P w K mg base (bq P w) j g f' nI nJ (dP K R))(hj:j<=k)(ha:fF (eL P w K mg base N qual sc f k) (e::es) (pk ρ) ts)(hR:R (dz ts) Ξ)(la:Later Ξ)(hg:∀ i,Gl (bF P w K mg base N qual sc f k i) g:=by intro _;rfl)(kP:(g==("__debug__" : Str))=false:=by decide)(he:∀ i,starEach (e::es) (bF P w K mg base N qual sc f k i).env=(false,eval e (bF P w K mg base N qual sc f k i).env)::starEach es (bF P w K mg base N qual sc f k i).env:=by intro _;rfl)(cv:∀ i,(backTo p3 (starEach es (bF P w K mg base N qual sc f k i).env)).any (·.1)=false:=by intro _;rfl) :
  ∃ τ:nH k qual sc f->TE,(∀ i,PE (bF P w K mg base N qual sc f k i) (.Call (.Name g p2) (e::es) [] p3) (τ i))/\∀ i (Q:VK) σ G0 H0 G H,RS K G0 H0 G H ρ σ->Ξ G0 H0 i.E->τ i σ H Q:=by
 obtain ⟨ta,ya,za⟩:=ha.use
 have ya':∀ i,PA (bF P w K mg base N qual sc f k i) (e::es) ta:=fun i p pins s σ H Q I hw=>ET (ya i p pins s σ H Q (I.d9 _) hw) (fun _ _ ⟨v,H',I',r,q⟩=>⟨v,H',I'.gj,r,q⟩) fun _ _ z=>False.elim z
 refine ⟨fun i=>ve (dP K R) [] (fun _=>i.E) ta,fun i=>C8 (X:=bF P w K mg base N qual sc f k i) Fn.ok (i.hr.mono hj) (hg i) Fn.tP Fn.kp Fn.bd .nil (Passes.s Tv) (ya' i) kP (he i) (cv i),fun i Q σ G0 H0 G H r kx=>?_⟩
 obtain ⟨fp,r⟩:=r
 have s0:Step G0 H0 (eK G H fp) H:=r.st.dt ⟨r.n,r.g,r.d⟩
 refine za σ (eK G H fp) H _ (mF r.st.s) (r.own.pk (jK r.g) fun a ha=>jM ha) fun vs G1 H1 s1 hx=>?_
 exact ⟨G1,dz ts,Ξ,s1.s,by rw [CS];exact hx,hR,la _ _ _ _ _ (s0.trans s1) kx⟩
theorem LX {g:Str}{j:Nat}{f':Addr}{nI:FuncData}{nJ:List Str}{R:List Dv->(Hp->Hp->XK->Prop)->Prop}{e:Expr}{es:List Expr}{ts:List Tr}{p2 p3:Pos}(Fn:Kn P w K mg base (bq P w) j g f' nI nJ (dP K R))(hj:j<=k)(ha:fF (eL P w K mg base N qual sc f k) (e::es) (pk ρ) ts)(hR:R (dz ts) Ξ)(la:Later Ξ)(hg:∀ i,Gl (bF P w K mg base N qual sc f k i) g:=by intro _;rfl)(kP:(g==("__debug__" : Str))=false:=by decide)(he:∀ i,starEach (e::es) (bF P w K mg base N qual sc f k i).env=(false,eval e (bF P w K mg base N qual sc f k i).env)::starEach es (bF P w K mg base N qual sc f k i).env:=by intro _;rfl)(cv:∀ i,(backTo p3 (starEach es (bF P w K mg base N qual sc f k i).env)).any (·.1)=false:=by intro _;rfl) :
  jA P w K mg base N qual sc f k (.Return (some (.Call (.Name g p2) (e::es) [] p3)) pos::bh) ρ Ξ:=by
 obtain ⟨τ,x,y⟩:=DN (p2:=p2) (p3:=p3) Fn hj ha hR la hg kP he cv
 exact ⟨fun i=>cq (m8 (τ i)) iy,fun i=>bM (og (x i)) iZ,fun i D σ G0 H0 G H r kx=>y i _ σ G0 H0 G H r kx⟩
theorem wN {g:Str}{j:Nat}{f':Addr}{nI:FuncData}{nJ:List Str}{R:List Dv->(Hp->Hp->XK->Prop)->Prop}{e:Expr}{es:List Expr}{ts:List Tr}{p2 p3:Pos}(Fn:Kn P w K mg base (bq P w) j g f' nI nJ (dP K R))(hj:j<=k)(ha:fF (eL P w K mg base N qual sc f k) (e::es) (pk ρ) ts)(hR:R (dz ts) Ξ)(la:Later Ξ)(hg:∀ i,Gl (bF P w K mg base N qual sc f k i) g:=by intro _;rfl)(kP:(g==("__debug__" : Str))=false:=by decide)(he:∀ i,starEach (e::es) (bF P w K mg base N qual sc f k i).env=(false,eval e (bF P w K mg base N qual sc f k i).env)::starEach es (bF P w K mg base N qual sc f k i).env:=by intro _;rfl)(cv:∀ i,(backTo p3 (starEach es (bF P w K mg base N qual sc f k i).env)).any (·.1)=false:=by intro _;rfl)(gV:∀ i,swapsWith (.Call (.Name g p2) (e::es) [] p3) none pos.line (bF P w K mg base N qual sc f k i).env=pure false:=by intro _;rfl) :
  jA P w K mg base N qual sc f k (.Expr (.Call (.Name g p2) (e::es) [] p3) pos::bh) ρ Ξ:=by
 obtain ⟨τ,x,y⟩:=DN (p2:=p2) (p3:=p3) Fn hj ha hR la hg kP he cv
 exact ⟨fun i=>cq (fk (τ i)) iy,fun i=>bM (eY (x i) (gV i)) iZ,fun i D σ G0 H0 G H r kx=>y i _ σ G0 H0 G H r kx⟩
theorem PI.up {X:Cx}{tg iter:Expr}{wi:TI}(h:PI X.du tg iter wi):PI X tg iter wi:=fun pins s σ H R I hw =>
 ET (h pins s σ H R (I.d9 _) hw) (fun _ _ z=>ET z (fun _ _ ⟨it,fp,tn,J,H',e,I',T,st,fo,q⟩=>⟨it,fp,tn,J,H',e,I'.gj,T,st,fo,q⟩) fun _ _ z=>False.elim z) fun _ _ z=>False.elim z
theorem PG.up {X:Cx}{tg:Expr}{g:TG}(h:PG X.du tg g):PG X tg g:=fun pins s σ H v u Q I r hw =>
 ET (h pins s σ H v u Q (I.d9 _) r hw) (fun _ _ ⟨aA,H',I',q⟩=>⟨aA,H',I'.gj,q⟩) fun _ _ z=>False.elim z
def uX (X:Cx)(bh:List Stmt):TS:=fun D σ H=>∃ τ:TS,df X bh τ/\τ D σ H
theorem Yg {X:Cx}{bh:List Stmt}:df X bh (uX X bh):=fun pins s σ H D I ⟨τ,h,q⟩=>h pins s σ H D I q
theorem DP {tg iter:Expr}{body:List Stmt}{its:List Dv}{js:List Nat}{sp:Dv->Option (List Dv)}(hi:vD (eL P w K mg base N qual sc f k) tg iter ρ its)(hg:iH (eL P w K mg base N qual sc f k) tg js sp)(inv:Nat->En)(m:Nat)(h0:inv 0=ρ)(hlen:∀ k,js.all (fun j=>Nat.blt j (inv k).length)=true)(step:∀ n d,n<m->its[n]?=some d->∃ dd jv,sp d=some dd/\cz (eL P w K mg base N qual sc f k) body (aY js (dd.map .fz) (inv n)) (.nx jv)/\Fg jv (inv (n+1)))(last:∃ d dd,its[m]?=some d/\sp d=some dd/\jA P w K mg base N qual sc f k body (aY js (dd.map .fz) (inv m)) Ξ)(la:Later Ξ)(hs:∀ i x,foldedSetIterable iter (bF P w K mg base N qual sc f k i).env x=pure x:=by intro _ _;rfl):jA P w K mg base N qual sc f k (.For tg iter body [] pos::bh) ρ Ξ:=by
 obtain ⟨wi,p,q⟩:=hi
 obtain ⟨g,pg,qg⟩:=hg
 obtain ⟨dm,wa,tY,G7,τm,pm,qm⟩:=last
 have wc:m<its.length:=(gz.mp tY).1
 subst h0
 refine ⟨fun i=>cq (vz wi g (uX (bF P w K mg base N qual sc f k i) body)) iy,fun i=>bM (D3 (X:=bF P w K mg base N qual sc f k i) PassesOwn.leaving rfl (PI.up (p i)) (PG.up (pg i)) Yg (hs i)) iZ,fun i D σ G0 H0 G H r kx=>?_⟩
 obtain ⟨fp,r⟩:=r
 refine q σ G H fp _ r.st.s r.own r.g fun J G1 H1 s1 it=>?_
 have r1:dU K G0 H0 G1 H1 (inv 0) σ fp:=⟨r.st.trans s1,r.own.mono s1.g s1.h,r.own.off s1 r.g,r.n,r.d⟩
 have kb:=la _ _ _ _ _ r1.base kx
 refine ⟨fun n m' aA H'=>m'=its.length-n/\n<=m/\∃ G',RS K G1 (less H1 fp) G' H' (inv n) aA,⟨_,rfl,Cs _,G1,fp,r1.rebase⟩,?_⟩
 rintro n m' aA H' ⟨rfl,hn,G',r'⟩
 obtain ⟨gu,r'⟩:=r'
 obtain ⟨i1,i2⟩:=it n G' H' r'.st.g r'.st.s
 by_cases dR:n<m
 ·have hd:its[n]?=some its[n]:=ar (by omega)
  obtain ⟨j1,j2⟩:=i1 _ hd
  refine .inr ⟨j1,fun bB H2=>∃ G2,RS K G1 (less H1 fp) G2 H2 (inv (n+1)) bB,fun bB H2 z=>⟨its.length-(n+1),by omega,rfl,dR,z⟩,fun x H3 y=>?_⟩
  obtain ⟨G3,s3,h3⟩:=j2 x H3 y
  obtain ⟨dd,jv,e1,⟨τ,pb,qb⟩,e2⟩:=step n _ dR hd
  refine qg _ dd x aA G3 H3 _ e1 s3.s h3 fun vs iI=>⟨τ,df.du (pb i),qb _ _ G1 (less H1 fp) G3 H3 (RS.aY (vE (hlen n)) iI ⟨gu,r'.st.trans s3,r'.own.mono s3.g s3.h,r'.own.off s3 r'.g,r'.n,r'.d⟩) fun σ4 G4 H4 r4=>⟨G4,e2.rs r4⟩⟩
 ·have en:n=m:=by omega
  subst en
  obtain ⟨j1,j2⟩:=i1 dm tY
  refine .inr ⟨j1,fun _ _=>False,fun _ _ z=>z.elim,fun x H3 y=>?_⟩
  obtain ⟨G3,s3,h3⟩:=j2 x H3 y
  exact qg dm wa x aA G3 H3 _ G7 s3.s h3 fun vs iI=>⟨τm i,pm i,qm i _ _ G1 (less H1 fp) G3 H3 (RS.aY (vE (hlen n)) iI ⟨gu,r'.st.trans s3,r'.own.mono s3.g s3.h,r'.own.off s3 r'.g,r'.n,r'.d⟩) kb⟩
theorem pY {x:Str}{st:Stmt}{dV:Value}{fd:FuncData}{ps:List Str}{R:List Dv->(Hp->Hp->XK->Prop)->Prop}(Fd:iC K x qual st dV f fd)(S:cH N ps (aD st))(hl:∀ dd Ξ,R dd Ξ->dd.length=ps.length)(hb:∀ dd Ξ,R dd Ξ->jA P w K mg base N qual (aD st) f k (bR st) (yK N dd) Ξ):bc P w K mg base (bq P w) (k+1) f fd ps (dP K R):=by
 refine Fd.gW S (fun vs H Q E ⟨G,dd,Ξ,s,h1,h2,h3⟩=>by rw [<- h1.length];exact hl dd Ξ h2) fun az A outer s H vs Q E hr h=>?_
 obtain ⟨G,dd,Ξ,s',h1,h2,h3⟩:=h
 obtain ⟨τ,x,y⟩:=hb dd Ξ h2
 refine ⟨_,x ⟨az,A,outer,s,H,E,hr⟩,y ⟨az,A,outer,s,H,E,hr⟩ _ (start N vs) G H G H ⟨[],.refl s',?_,fun _ z=>(nomatch z),fun _ z=>(nomatch z),.nil⟩ h3⟩
 unfold start yK
 rw [<- h1.length]
 exact Cr h1
end
def xV (Ξ:Hp->Hp->XK->Prop)(C:Addr)(W:Hp->Addr->Prop):Prop:=∀ G H (E:XK),(∀ x H2,ai H H2->W H2 x->E (.ref C) (some x) H2)->Ξ G H E
theorem V8 {C:Addr}:xV (fun G H E=>gX G H C E) C fun H x=>H x=some (dO x C none):=fun G H E h x G' H' st hx=>h x _ (st.h.trans (ai.new hx)) bT
theorem LY {C:Addr}{n:Str}{v:V}:xV (fun G H E=>pd G H C n v E) C fun H x=>∃ dx,H x=some (dO x C (some dx))/\H dx=some (.xd [(n,v)]):=fun G H E h x dx G' H' st hx hd ne=>by
 have n2:upd H' x (dO x C (some dx)) dx=none:=by rw [ay ne];exact hd
 exact h x _ ((st.h.trans (ai.new hx)).trans (ai.new n2)) ⟨dx,by rw [ay ne.symm];exact bT,bT⟩
def LZ (K:Frag):V->List V->Hp->VK->Prop:=fun x vs H Q=>∃ (l:Addr) (xs:List V) (y:V) (j:Nat),x=.ref l/\vs=[y]/\aF K H l xs/\fA y=true/\xs.all fA=true/\(∃ z,xs[j]?=some z/\gT z y=true)/\(∀ i z,i<j->xs[i]?=some z->gT z y=false)/\Q (.int (j:Nat)) H
theorem DQ {x:V}:∀ {xs:List V} {us:List Value} {j:Nat} {u:Value},Vals xs us->xs.all fA=true->us[j]?=some u->∃ z,xs[j]?=some z/\jr x u=gT z x
 |_,_,_,_,.nil,_,h=>by simp at h
 |y::xs,u::us,0,_,.cons r t,f,h=>by
  rw [Zl,DD] at f
  cases h
  exact ⟨y,rfl,by rw [D4 r f.1]⟩
 |y::xs,u::us,j+1,_,.cons r t,f,h=>by
  rw [Zl,DD] at f
  obtain ⟨z,h1,h2⟩:=DQ (x:=x) (xs:=xs) (us:=us) (j:=j) t f.2 (by simpa using h)
  exact ⟨z,by simpa using h1,h2⟩
section
variable {X:Cx}
theorem Uv:nu X "list.index" (LZ X.K):=by
 intro pins s σ H x vs v us Q I rx rv h
 obtain ⟨l,xs,y,j,rfl,rfl,hq,fy,fs,⟨z,o9,yL⟩,P2,q⟩:=h
 cases rx
 obtain ⟨u,rfl,ru⟩:=rv.one
 obtain ⟨its,r,⟨⟨cl,dd,da,sl⟩,n,e,c1,c2,d1⟩,z0⟩:=I.list hq
 simp only at c1 d1
 subst c1 d1
 have hlen:=r.length
 have hj:j<its.length:=by
  have:=(gz.mp o9).1
  omega
 have hs:sizeLine=16777216:=sizeLine_eq
 refine abI F.slot_list_index ⟨_,e,rfl⟩ F.entry_list_index (F.args_list_index_2 _ _) (SeqAt.list_indexAt l its.toArray n dd sl u (jr y) j (by simpa using hj) (by omega) ?_ ?_) ⟨e,fun w hw=>wI ru fy r fs w (by simpa using hw),⟨.int _,H,I.tok _,⟨_,rfl⟩,q⟩⟩
 ·show jr y its[j]=true
  obtain ⟨z',h1,h2⟩:=DQ (x:=y) r fs (ar hj)
  rw [o9] at h1
  cases h1
  rw [h2,yL]
 ·intro i hi lt
  have G8:i<its.length:=by simpa using hi
  show jr y its[i]=false
  obtain ⟨z',h1,h2⟩:=DQ (x:=y) r fs (ar G8)
  rw [h2,P2 i z' lt h1]
end
section
variable {ι:Type}{F:aQ ι}{e a b c:Expr}{es:List Expr}{ρ:En}{t ta cM:Tr}{ts:List Tr}{pos:Pos}
theorem Uw {v:V}{ws:List V}{j:Nat}{o:Expr}{to:Tr}(ho:Ev F o ρ to)(eo:er to=.lst (ws.map .fl))(ha:Ev F e ρ (.fz (.fl v)))(h1:∃ z,ws[j]?=some z/\gT z v=true)(h2:∀ i z,i<j->ws[i]?=some z->gT z v=false){apos:Pos}(d8:∀ i,attributeBase o "index" (F.cx i).env (eval o (F.cx i).env)=eval o (F.cx i).env:=by intro _;rfl)(fS:∀ i,((backTo pos (starEach [e] (F.cx i).env)).all (fun x=>!x.1)&&(backToKw pos (keywordEach [] (F.cx i).env)).all (fun x=>x.1.isSome)&&decide (([e]:List Expr).length+([]:List Keyword).length+(if ([]:List Keyword).isEmpty then 0 else 1)<30))=true:=by intro _;rfl)(hline:(apos.endLine==pos.line)=true:=by rfl)(hs:∀ i,starEach [e] (F.cx i).env=[(false,eval e (F.cx i).env)]:=by intro _;rfl):Ev F (.Call (.Attribute o "index" apos) [e] [] pos) ρ (ti (j:Nat)) :=
 X5 (r:=LZ F.K) PySem.F.slot_list_index PySem.F.type_list_index (fun i=>F.hK i ▸ Uv) ho eo (ah ha ao hs) (fun G H x vs Q s hx hv k=>by
  rw [eo] at hx
  obtain ⟨l,us,rfl,k1,k2⟩:=hx
  obtain ⟨rfl,hf⟩:=Kz k2
  obtain ⟨y,rfl,hy⟩:=iU hv
  have yM:=hy.1
  subst yM
  exact ⟨l,_,y,j,rfl,rfl,s.seq k1,hy.2,hf,h1,h2,k.sc s rfl⟩) d8 fS hline hs (fun _=>rfl)
end
section
variable {ι:Type}{F:aQ ι}{ρ ρ':En}{D:Addr}{i:Nat}{n x:Str}{np hpos pos:Pos}{body suite:List Stmt}{b₀:Stmt}
theorem U9 {C:Addr}{j:Nat}{y:Str}{p1:Pos}{W:Hp->Addr->Prop}{Ξ:Hp->Hp->XK->Prop}{g:Str}{k:Nat}{f:Addr}{fd:FuncData}{ps:List Str}{R:List Dv->(Hp->Hp->XK->Prop)->Prop}{e:Expr}{es:List Expr}{ts:List Tr}{p2 p3 p4:Pos}{th:Addr->TS}(c:GW F.K F.mg x D)(i:Nat)(Fn:Kn F.P F.w F.K F.mg F.base (bq F.P F.w) k g f fd ps (dP F.K R))(hk:k<=F.room)(ha:fF (oM F) (e::es) (pk ρ) ts)(hR:R (dz ts) Ξ)(la:xV Ξ C W)(sub:subIn F.K (.ref C) (.ref D)=some true)(eC : ρ[i]?=some none)(YQ : ρ'[i]?=some none)(rh:∀ q a,df ((F.cx q).suite (.ref a)) (b₀::suite) (th a))(hs:∀ (E:Ends) σ G0 H0 G H a,RS F.K G0 H0 G H ρ σ->σ[i]?=some (some (.ref a))->W H a->(∀ aA G' H',RS F.K G0 H0 G' H' ρ' aA->E.nx aA H')->th a E σ H)(hN:∀ q,(F.cx q).N.Nodup)(G9:∀ q,(F.cx q).N[j]?=some y:=by intro _;rfl)(tW:∀ q,Loc (F.cx q).env.scope y:=by intro _;first | exact Or.inl rfl | exact Or.inr rfl)(hjf:∀ q,(F.cx q).fn y=true\/(F.cx q).env.scope.names.lookup y=some .local:=by intro _;first | exact .inl rfl | exact .inr rfl)(gV:∀ q:vZ ι,swapsWith (.Call (.Name g p2) (e::es) [] p3) (some (.Name y p1)) p4.line ((oM F).cx q).env=pure false:=by intro _;rfl)(hgg:∀ q:vZ ι,Gl ((oM F).cx q) g:=by intro _;rfl)(kP:(g==("__debug__" : Str))=false:=by decide)(he:∀ q:vZ ι,starEach (e::es) ((oM F).cx q).env=(false,eval e ((oM F).cx q).env)::starEach es ((oM F).cx q).env:=by intro _;rfl)(cv:∀ q:vZ ι,(backTo p3 (starEach es ((oM F).cx q).env)).any (·.1)=false:=by intro _;rfl)(hi:∀ q,(F.cx q).N[i]?=some n:=by intro _;rfl)(hl:∀ q,(F.cx q).env.scope.names.lookup n=some .local:=by intro _;rfl)(dQ:∀ q,∃ outer,(F.cx q).stack=(F.cx q).env::outer:=by intro _;exact ⟨_,rfl⟩)(eB:∀ q,∃ L,(F.cx q).env.frame=some L:=by intro _;exact ⟨_,rfl⟩)(hex:∀ q,(F.cx q).ex=[]:=by intro _;rfl)(hg:∀ q,Gl (F.cx q) x:=by intro _;rfl)(hdb:(x==("__debug__" : Str))=false:=by decide) :
  Rn F (.Try [.Assign [.Name y p1] (.Call (.Name g p2) (e::es) [] p3) p4] [.ExceptHandler (some (.Name x np)) (some n) (b₀::suite) hpos] [] [] pos) ρ (.nx ρ'):=by
 obtain ⟨ta,ya,za⟩:=ha.use
 refine ⟨Nn F.K D i (fun E=>hU (ve (dP F.K R) [] E ta) (dZ j)) th,fun q=>?_,fun E σ G0 H0 G H r kk=>?_⟩
 ·obtain ⟨outer,dQ⟩:=dQ q
  obtain ⟨L,eB⟩:=eB q
  have tU:Kn (F.cx q).prog (F.cx q).w (F.cx q).K (F.cx q).mg (F.cx q).base (bq (F.cx q).prog (F.cx q).w) k g f fd ps (dP F.K R):=by
   rw [F.hP q,F.hw q,F.hK q,F.hm q,F.hb q]
   exact Fn
  have:=V7 (X:=F.cx q) (D:=D) (i:=i) (n:=n) (x:=x) (np:=np) (hpos:=hpos) (pos:=pos) (body:=[.Assign [.Name y p1] (.Call (.Name g p2) (e::es) [] p3) p4]) (suite:=suite) (b₀:=b₀) (tb:=fun E=>hU (ve (dP F.K R) [] E ta) (dZ j)) (th:=th) (hN q) (hi q) (hl q) dQ eB (hex q) (hg q) (by rw [F.hm q];exact c.g) (by rw [F.hK q];exact c.t) (by rw [F.hK q];exact c.i) (by rw [F.hK q];exact c.e) (fun E XE pn hx=>mI (lD (X:=(F.cx q).jU XE pn) (hN q) (G9 q) (tW q) (C8 (X:=(F.cx q).jU XE pn) tU.ok ((F.hr q).mono hk) (hgg ⟨q,XE,pn⟩) tU.tP tU.kp tU.bd .nil hx (ya ⟨q,XE,pn⟩) kP (he ⟨q,XE,pn⟩) (cv ⟨q,XE,pn⟩)) (gV ⟨q,XE,pn⟩) (hjf q))) (rh q) hdb
  rw [F.hK q] at this
  exact this
 ·obtain ⟨fp,r⟩:=r
  refine za σ (eK G H fp) H _ (mF r.st.s) (r.own.pk (jK r.g) fun a ha=>jM ha) fun vs G1 H1 s1 hx=>?_
  refine ⟨G1,dz ts,Ξ,s1.s,by rw [CS];exact hx,hR,la _ _ _ fun a H2 s2 jx=>⟨a,C,rfl,rfl,sub,?_⟩⟩
  have sH:ai H H2:=s1.h.trans s2
  have r2:dU F.K G0 H0 G H2 ρ (σ.set i (some (.ref a))) fp:=⟨r.st.trans ⟨ai.refl _,sH,r.st.s.trans sH,fun a h h'=>absurd h h'⟩,(r.own.mono (ai.refl _) sH).tE eC,r.g,r.n,r.d⟩
  have li:i < σ.length:=by rw [<- r.own.len];exact (gz.mp eC).1
  refine hs _ _ G0 H0 G _ a ⟨fp,r2⟩ (by rw [aca];simp [li]) jx fun aA G' H' r'=>?_
  exact kk _ G' H' (r'.tE YQ)
end
theorem aJ.pick {K:Frag}{G H:Hp}:∀ {js:List Nat} {ts:List Tr} {ρ:En} {σ:St} {fp:List Addr},aJ K G H ρ σ fp->js.Nodup->js.map (fun j=>ρ[j]?)=ts.map (fun t=>some (some t))->∃ vs fq fr,js.map (fun j=>σ[j]?)=vs.map (fun v=>some (some v))/\aM K G H ts vs fq/\fp.Perm (fq++fr)
 |[],[],_,_,fp,h,_,_=>⟨[],[],fp,rfl,⟨rfl,rfl⟩,.refl _⟩
 |[],_::_,_,_,_,_,_,e=>by cases e
 |_::_,[],_,_,_,_,_,e=>by cases e
 |j::js,t::ts,ρ,σ,fp,h,nd,e=>by
  obtain ⟨e1,e2⟩:=MW e
  obtain ⟨v,f,fr,a1,a2,a3,a4⟩:=h.split e1
  have Qq:=BB.mp nd
  obtain ⟨vs,fq,fr2,b1,b2,b3⟩:=aJ.pick (js:=js) (ts:=ts) a3 Qq.2 (by rw [<- e2];exact ON fun i hi=>B0 (fun (z:j=i)=>Qq.1 (by rw [z];exact hi)))
  exact ⟨v::vs,f++fq,fr2,by rw [ES,ES,a1,b1],⟨v,vs,f,fq,rfl,rfl,a2,b2⟩,a4.trans (by rw [GS];exact abu f b3)⟩
section
variable {ι:Type}{F:aQ ι}{ρ:En}{pos:Pos}
theorem L6 (ja jb jc:Nat){xa xb xc:Str}{ta tb tc:Tr}{pa pb pc pt:Pos}{kt}(nd:[ja,jb,jc].Nodup)(ha : ρ[ja]?=some (some ta))(hb : ρ[jb]?=some (some tb))(hc : ρ[jc]?=some (some tc))(hps:∀ i,PS (F.cx i) (.Return (some (.Tuple [.Name xa pa,.Name xb pb,.Name xc pc] kt pt)) pos) (m8 (qA (aT (bD ja) (aT (bD jb) (aT (bD jc) ck)))))):Rn F (.Return (some (.Tuple [.Name xa pa,.Name xb pb,.Name xc pc] kt pt)) pos) ρ (.rt (.tp [ta,tb,tc])):=by
 refine ⟨_,hps,fun D σ G0 H0 G H r k=>?_⟩
 obtain ⟨fp,r⟩:=r
 obtain ⟨vs,fq,fr,q1,q2,q3⟩:=r.own.pick (js:=[ja,jb,jc]) (ts:=[ta,tb,tc]) nd (by rw [ES,ES,ES,ha,hb,hc];rfl)
 have hv:vs.length=3:=by have:=congrArg List.length q1;rw [aa,aa] at this;exact this.symm
 obtain ⟨va,vb,vc,rfl⟩:∃ va vb vc,vs=[va,vb,vc]:=by
  match vs,hv with
  |[va,vb,vc],_=>exact ⟨va,vb,vc,rfl⟩
 obtain ⟨z1,q1⟩:=MW q1
 obtain ⟨z2,q1⟩:=MW q1
 obtain ⟨z3,q1⟩:=MW q1
 have sub:∀ a ∈ fq,a ∈ fp:=fun a ha=>q3.mem_iff.mpr (rf _ ha)
 refine ⟨va,z1,vb,z2,vc,z3,by show 3<=sizeLine;decide,fun p hp=>?_⟩
 have pf:p ∉ fq:=fun z=>by
  obtain ⟨u,hu⟩:=r.own.there p (sub p z)
  rw [hp] at hu;cases hu
 refine k (.ref p) G _ (p::fq) (r.st.trans (.lO r.st.s hp)) ⟨p,_,fq,rfl,bT,q2.frame pf,rfl⟩ ⟨fun a ha=>?_,fun a ha=>?_,BB.mpr ⟨pf,(ue.mp (q3.nodup_iff.mp r.d)).1⟩⟩
 ·rcases gr.mp ha with rfl | z
  ·exact r.st.h.free hp
  ·exact r.n a (sub a z)
 ·rcases gr.mp ha with rfl | z
  ·exact r.st.s.free hp
  ·exact r.g a (sub a z)
end
def Qr (N:List Str)(ts:List Tr):En:=ts.map some++List.replicate (N.length-ts.length) none
theorem J0 {K:Frag}{G H:Hp}{n:Nat}:∀ {ts:List Tr} {vs:List V} {fp:List Addr},aM K G H ts vs fp->aJ K G H (ts.map some++List.replicate n none) (vs.map some++List.replicate n none) fp
 |[],_,_,⟨h1,h2⟩=>by subst h1 h2;exact Dd n
 |_::_,_,_,⟨v,r,f1,f2,h1,h2,h3,h4⟩=>by subst h1 h2;exact ⟨v,_,f1,f2,rfl,rfl,h3,J0 h4⟩
theorem dU.put {K:Frag}{G0 H0 G H:Hp}{ρ:En}{σ:St}{fp f:List Addr}{j:Nat}{t:Tr}{v:V}(r:dU K G0 H0 G H ρ σ fp)(hj : ρ[j]?=some none)(o:Ow K G H t v f)(hg:∀ a ∈ f,G a=none)(hn:∀ a ∈ f,H0 a=none)(nd:f.Nodup)(hd:∀ a ∈ f,a ∉ fp) :
  ∃ gu,dU K G0 H0 G H (ρ.set j (some t)) (σ.set j (some v)) gu/\gu.Perm (f++fp):=by
 obtain ⟨gu,q1,q2⟩:=r.own.put hj o
 refine ⟨gu,⟨r.st,q1,fun a ha=>?_,fun a ha=>?_,q2.nodup_iff.mpr (ue.mpr ⟨nd,r.d,fun a ha b hb e=>hd a ha (e ▸ hb)⟩)⟩,q2⟩
 ·rcases ij.mp (q2.mem_iff.mp ha) with z | z
  ·exact hg a z
  ·exact r.g a z
 ·rcases ij.mp (q2.mem_iff.mp ha) with z | z
  ·exact hn a z
  ·exact r.n a z
section
variable {ι:Type}{F:aQ ι}{ρ:En}{pos:Pos}
theorem V9 {e tg:Expr}{ta tb tc:Tr}(j1 j2 j3:Nat)(kQ:j1 ≠ j2)(kR:j1 ≠ j3)(jB:j2 ≠ j3)(he:cF F e ρ (.tp [ta,tb,tc]))(hg:∀ i,PG (F.cx i) tg (yb F.K 3 (ko (dZ j1) (ko (dZ j2) (ko (dZ j3) x8)))))(h1 : ρ[j1]?=some none)(h2 : ρ[j2]?=some none)(h3 : ρ[j3]?=some none)(hs:∀ i,swapsWithSole [tg] e pos.line (F.cx i).env=pure false:=by intro _;rfl)(hw:∀ i,swappedStores [tg] e (F.cx i).env=pure none:=by intro _;rfl)(ha:∀ i,(assignEach [tg] (F.cx i).env).map (·.2)=[assign tg (F.cx i).env]:=by intro _;rfl):Rn F (.Assign [tg] e pos) ρ (.nx (((ρ.set j1 (some ta)).set j2 (some tb)).set j3 (some tc))):=by
 obtain ⟨τ,y,z⟩:=he
 refine ⟨hU τ _,fun i=>sF (y i) (hg i) (hs i) (hw i) (ha i),fun D σ G0 H0 G H r k=>?_⟩
 obtain ⟨fp,r⟩:=r
 refine z σ G H fp _ r.st.s r.own r.g fun v G1 H1 fq s1 o w=>?_
 obtain ⟨p,vs,fx,rfl,hp,ol,rfl⟩:=o
 obtain ⟨va,r1,fa,fa',rfl,rfl,oa,ol⟩:=ol
 obtain ⟨vb,r2,fb,fb',rfl,rfl,ob,ol⟩:=ol
 obtain ⟨vc,r3,fc,fc',rfl,rfl,oc,ol⟩:=ol
 obtain ⟨rfl,rfl⟩:=ol
 have rr:dU F.K G0 H0 G1 H1 ρ σ fp:=⟨r.st.trans s1,r.own.mono s1.g s1.h,r.own.off s1 r.g,r.n,r.d⟩
 have nf:∀ a,a ∈ fa++(fb++(fc++[]))->a ∉ fp:=fun a ha hf=>by
  obtain ⟨u,hu⟩:=r.own.there a hf
  rw [w.n a (.tail _ ha)] at hu;cases hu
 have n0:∀ a,a ∈ fa++(fb++(fc++[]))->H0 a=none:=fun a ha=>r.st.h.free (w.n a (.tail _ ha))
 have g0:∀ a,a ∈ fa++(fb++(fc++[]))->G1 a=none:=fun a ha=>w.g a (.tail _ ha)
 have nd:=(BB.mp w.d).2
 obtain ⟨da,nd2,Qs⟩:=ue.mp nd
 obtain ⟨db,nd3,dbc⟩:=ue.mp nd2
 obtain ⟨dc,_,_⟩:=ue.mp nd3
 have Hc:∀ a ∈ fa,a ∈ fa++(fb++(fc++[])):=fun a h=>rf _ h
 have Hd:∀ a ∈ fb,a ∈ fa++(fb++(fc++[])):=fun a h=>ff _ (rf _ h)
 have inc:∀ a ∈ fc,a ∈ fa++(fb++(fc++[])):=fun a h=>ff _ (ff _ (rf _ h))
 obtain ⟨f1,r1,p1⟩:=rr.put h1 oa (fun a h=>g0 a (Hc a h)) (fun a h=>n0 a (Hc a h)) da (fun a h=>nf a (Hc a h))
 obtain ⟨f2,r2,p2⟩:=r1.put (j:=j2) (by rw [B0 kQ];exact h2) ob (fun a h=>g0 a (Hd a h)) (fun a h=>n0 a (Hd a h)) db (fun a h z=>by
  rcases ij.mp (p1.mem_iff.mp z) with y | y
  ·exact Qs a y a (rf _ h) rfl
  ·exact nf a (Hd a h) y)
 obtain ⟨f3,r3,p3⟩:=r2.put (j:=j3) (by rw [B0 jB,B0 kR];exact h3) oc (fun a h=>g0 a (inc a h)) (fun a h=>n0 a (inc a h)) dc (fun a h z=>by
  rcases ij.mp (p2.mem_iff.mp z) with y | y
  ·exact dbc a y a (rf _ h) rfl
  ·rcases ij.mp (p1.mem_iff.mp y) with y | y
   ·exact Qs a y a (ff _ (rf _ h)) rfl
   ·exact nf a (inc a h) y)
 exact ⟨p,[va,vb,vc],rfl,eM.of hp,rfl,va,[vb,vc],rfl,vb,[vc],rfl,vc,[],rfl,rfl,k _ G1 H1 ⟨f3,r3⟩⟩
end
theorem Ux {K:Frag}{G H:Hp}(l:LI):aM K G H (l.map fun n=>Tr.fz (di n)) (l.map V.int) []:=by
 have:=(wJ (K:=K) (G:=G) (ns:=l)).lW (H:=H)
 rw [xl] at this
 exact this
end L2
namespace Tx
open PySem
def D (n:Nat):List Nat:=(Nat.toDigits 10 n).map Char.toNat
theorem dc:∀ d,d<10->(Nat.digitChar d).toNat=48+d:=by decide
theorem Fm {n:Nat}(h:n<10):D n=[48+n]:=by
 unfold D
 rw [Nat.toDigits_of_lt_base h,ES,dc n h]
 rfl
theorem Ed {n:Nat}(h : 10<=n):D n=D (n / 10)++[48+n % 10]:=by
 unfold D
 rw [Nat.toDigits_of_base_le (by decide) h,Cf,ES,dc _ (Nat.mod_lt _ (by decide))]
 rfl
theorem Ot (n:Nat):D n ≠ []:=by
 unfold D
 intro h
 exact Nat.toDigits_ne_nil (acw.mp h)
theorem Yh {n k:Nat}(hk : 0<k):(D n).length<=k ↔ n<10 ^ k:=by
 unfold D
 rw [aa]
 exact Nat.length_toDigits_le_iff (by decide) hk
theorem EF {n c:Nat}(h:c ∈ D n) : 48<=c/\c<=57:=by
 induction n using Nat.strongRecOn with
 |_ n ih =>
  by_cases hn:n<10
  ·rw [Fm hn] at h
   have:=mT.mp h
   omega
  ·rw [Ed (by omega)] at h
   rcases ij.mp h with h | h
   ·exact ih _ (by omega) h
   ·have:=mT.mp h
    omega
theorem Xj {n:Nat}(hn : 1<=n):∃ c r,D n=c::r/\c ≠ 48:=by
 induction n using Nat.strongRecOn with
 |_ n ih =>
  by_cases h:n<10
  ·exact ⟨48+n,[],Fm h,by omega⟩
  ·obtain ⟨c,r,e,hc⟩:=ih (n / 10) (by omega) (by omega)
   exact ⟨c,r++[48+n % 10],by rw [Ed (by omega),e];rfl,hc⟩
theorem ext {x y:Str}(h:x.cps.toList=y.cps.toList):x=y:=by
 cases x;cases y
 congr 1
 exact Array.toList_inj.mp h
abbrev S (n:Nat):Str:=Str.ofString (toString (n:Int))
theorem Yi (n:Nat):(S n).cps.toList=D n:=PySem.W.KIN.signs_num n
theorem dI (x y:Str):(x++y).cps.toList=x.cps.toList++y.cps.toList:=by
 show (x.cps++y.cps).toList=_
 exact Array.toList_append
theorem Va (ys:List Str):(Txt.join ⟨#[]⟩ ys).cps.toList=(ys.map (fun y=>y.cps.toList)).flatten:=by
 unfold Txt.join
 rw [StrLaws.glued_eq_join]
 induction ys with
 |nil=>rfl
 |cons y ys ih=>rw [PyProof.Rows.join_nil_cons,dI,ih];rfl
theorem Yj (n:Nat):NumText.digitsVal (D n)=n:=by
 induction n using Nat.strongRecOn with
 |_ n ih =>
  by_cases h:n<10
  ·rw [Fm h]
   show 0*10+(48+n-48)=n
   omega
  ·rw [Ed (by omega)]
   unfold NumText.digitsVal
   rw [List.foldl_append]
   show (NumText.digitsVal (D (n / 10)))*10+(48+n % 10-48)=n
   rw [ih _ (by omega)]
   omega
theorem Yk {x:Str}{n:Nat}(hx:x.cps.toList=D n)(hl:x.length<=4300):intText? x=some (n:Int):=by
 rw [intText_digits (by rw [hx];exact fun c hc=>EF hc) (by rw [hx];exact Ot n) hl,hx,Yj]
end Tx
namespace L2
open PySem PySem.Spec PyProof.Rows
section
variable {X:Cx}
def ME:V->List V->Hp->VK->Prop:=fun x vs H Q=>∃ z y,x=.str z/\vs=[.str y]/\(y.length==0)=false/\z.length+2<=sizeLine/\∀ p,H p=none->Q (.ref p) (upd H p (.lst ((Txt.split z y).map V.str)))
theorem J4:∀ (l:List (PySem.Str×Tok)),Vals ((l.map (·.1)).map V.str) (strValues l)
 |[] => .nil
 |(x,t)::l=>.cons ⟨t,rfl⟩ (J4 l)
theorem Vb:nu X "str.split" ME:=by
 intro pins s σ H x vs v us Q I rx rv h
 obtain ⟨z,y,rfl,rfl,hy,hz,q⟩:=h
 obtain ⟨t,rfl⟩:=rx
 obtain ⟨u,rfl,ru⟩:=rv.one
 obtain ⟨tu,rfl⟩:=ru
 have q0:=q _ I.fresh
 have hn:(Builtin.Str.partsBetween z (Builtin.Str.occurrences z y 0 z.length (z.length+1)) y.length).length<=sizeLine:=by
  have e1:=StrLaws.occ_length_le z y 0 z.length (z.length+1)
  rw [length_partsBetween];omega
 have fin:∀ (l:List (PySem.Str×Tok)) (k:Nat),l.map (·.1)=Txt.split z y->(Txt.split z y).length<=sizeLine->EP X pins σ Q (.ref s.heap.objs.size) { s with toks:=k,heap:=s.heap.push { cls:=.type "list",data:=.seq (strValues l).toArray } }:=fun l k e hl=>by
  refine ⟨.ref _,_,I.laid (t':=k) (o:=.lst ((Txt.split z y).map V.str)) (fun _ _ q=>gc _ q) (ee _) ⟨by rw [aa];exact hl,strValues l,0,by rw [<- e];exact J4 l,ze _ rfl⟩,rfl,q0⟩
 have sl:=split_le z y
 cases h1:(decide (z.length<y.length) || decide (Builtin.Str.strKind z<Builtin.Str.strKind y))
 ·cases hf:(Builtin.Str.occurrences z y 0 z.length (z.length+1)).isEmpty
  ·refine abI F.slot_str_split (acs _ _ _) acJ (acD _ _) (meets_str_split_sep z y t tu h1 hy hf (by omega) hn) ?_
   show wants (EP X pins σ Q) X.xe _ { s with toks:=_,heap:=s.heap.push { cls:=.type "list",data:=.seq (strsFrom s.toks (Builtin.Str.partsBetween z (Builtin.Str.occurrences z y 0 z.length (z.length+1)) y.length)).toArray } }
   rw [strsFrom_eq]
   exact fin (numbered s.toks _) _ ((numbered_texts _ _).trans ((AM (acx h1)).trans (AM (acx hf))).symm) (by omega)
  ·exact abI F.slot_str_split (acs _ _ _) acJ (acD _ _) (meets_str_split_not_found z y t tu h1 hy hf)
    (fin [(z,t)] s.toks ((AM (acx h1)).trans (Cn hf)).symm (by omega))
 ·exact abI F.slot_str_split (acs _ _ _) acJ (acD _ _) (meets_str_split_cannot_occur z y t tu h1)
   (fin [(z,t)] s.toks (Cn h1).symm (by omega))
end
section
variable {ι:Type}{F:aQ ι}{e a b o:Expr}{es:List Expr}{ρ:En}{t ta cM:Tr}{ts:List Tr}{pos:Pos}
theorem Ee {nm:PySem.Str}{id:String}{r:V->List V->Hp->VK->Prop}{z:PySem.Str}(slot:Slot "str" nm id)(qT:typeOf (.builtin id)=pure (.type "method_descriptor"))(hm:∀ i,yz (F.cx i) id r)(ho:Ev F o ρ (tx z))(ha:fF F (e::es) ρ ts)(h:∀ G H vs Q,ai G H->aU F.K G (dz ts) vs->Kv F.K G H t Q->r (.str z) vs H Q){apos:Pos}(d8:∀ i,attributeBase o nm (F.cx i).env (eval o (F.cx i).env)=eval o (F.cx i).env:=by intro _;rfl)(fS:∀ i,((backTo pos (starEach (e::es) (F.cx i).env)).all (fun x=>!x.1)&&(backToKw pos (keywordEach [] (F.cx i).env)).all (fun x=>x.1.isSome)&&decide ((e::es).length+([]:List Keyword).length+(if ([]:List Keyword).isEmpty then 0 else 1)<30))=true:=by intro _;rfl)(hline:(apos.endLine==pos.line)=true:=by rfl)(hs:∀ i,starEach (e::es) (F.cx i).env=(false,eval e (F.cx i).env)::starEach es (F.cx i).env:=by intro _;rfl)(u9:∀ i,(backTo pos (starEach es (F.cx i).env)).any (·.1)=false:=by intro _;rfl) :
  Ev F (.Call (.Attribute o nm apos) (e::es) [] pos) ρ t:=by
 obtain ⟨τ,p,q⟩:=ho.use
 obtain ⟨bX,p',q'⟩:=ha.use
 refine ⟨eO F.K "str" r τ bX,fun i=>F.hK i ▸ gK PySem.F.plainAttrs_str slot qT (hm i) (p i) (p' i) (d8 i) (fS i) hline (hs i) (u9 i),fun σ G H Q s rr k=>?_⟩
 refine q σ G H _ s rr fun x G1 H1 s1 hx=>?_
 have ex:x=.str z:=aB hx
 subst ex
 exact ⟨rfl,q' σ G1 H1 _ s1.s (rr.mono s1.g) fun vs G2 H2 s2 hv=>h G2 H2 vs Q s2.s hv (k.step (s1.trans s2))⟩
theorem KD {K:Frag}{G H:Hp}:∀ {vs:List V},vs.all fA=true->aM K G H (vs.map fun v=>.fz (.fl v)) vs []
 |[],_=>⟨rfl,rfl⟩
 |v::vs,h=>by
  rw [Zl,DD] at h
  exact ⟨v,vs,[],[],rfl,rfl,⟨rfl,rfl,h.1⟩,KD h.2⟩
abbrev aP (ws:List PySem.Str):Tr:=.ow (ws.map tx)
abbrev ag (ws:List PySem.Str):Dv:=.lst (ws.map ds)
theorem J5 (ws:List PySem.Str):(ws.map V.str).all fA=true:=by rw [List.all_map];exact Pf.mpr fun _ _=>rfl
theorem dW (ws:List PySem.Str):er (aP ws)=ag ws:=by rw [rX];rfl
theorem wO {K:Frag}{G:Hp}:∀ {ws:List PySem.Str} {vs:List V},aU K G (ws.map ds) vs->vs=ws.map V.str
 |[],_,h=>h
 |w::ws,_,⟨x,r,h1,h2,h3⟩=>by subst h1;rw [aB h2,wO h3];rfl
theorem sj {z y:PySem.Str}(ho:Ev F o ρ (tx z))(ha:Ev F e ρ (tx y))(hy:(y.length==0)=false)(hz:z.length+2<=sizeLine){apos:Pos}(d8:∀ i,attributeBase o "split" (F.cx i).env (eval o (F.cx i).env)=eval o (F.cx i).env:=by intro _;rfl)(fS:∀ i,((backTo pos (starEach [e] (F.cx i).env)).all (fun x=>!x.1)&&(backToKw pos (keywordEach [] (F.cx i).env)).all (fun x=>x.1.isSome)&&decide (([e]:List Expr).length+([]:List Keyword).length+(if ([]:List Keyword).isEmpty then 0 else 1)<30))=true:=by intro _;rfl)(hline:(apos.endLine==pos.line)=true:=by rfl)(hs:∀ i,starEach [e] (F.cx i).env=[(false,eval e (F.cx i).env)]:=by intro _;rfl):Ev F (.Call (.Attribute o "split" apos) [e] [] pos) ρ (aP (Txt.split z y)) :=
 Ee (r:=ME) PySem.F.slot_str_split PySem.F.type_str_split (fun i=>Vb) ho (ah ha ao hs) (fun G H vs Q s hv k=>by
  obtain ⟨y',rfl,oW⟩:=iU hv
  rw [aB oW]
  refine ⟨z,y,rfl,rfl,hy,hz,fun p hp=>?_⟩
  have:=(J5 (Txt.split z y))
  refine Kv.lst (ts:=(Txt.split z y).map tx) k s ?_ hp
  have o:=KD (K:=F.K) (G:=G) (H:=H) this
  rwa [qr] at o) d8 fS hline hs (fun _=>rfl)
theorem J6 {z y:PySem.Str}(ho:Ev F o ρ (tx z))(ha:Ev F e ρ (tx y)){apos:Pos}(d8:∀ i,attributeBase o "startswith" (F.cx i).env (eval o (F.cx i).env)=eval o (F.cx i).env:=by intro _;rfl)(fS:∀ i,((backTo pos (starEach [e] (F.cx i).env)).all (fun x=>!x.1)&&(backToKw pos (keywordEach [] (F.cx i).env)).all (fun x=>x.1.isSome)&&decide (([e]:List Expr).length+([]:List Keyword).length+(if ([]:List Keyword).isEmpty then 0 else 1)<30))=true:=by intro _;rfl)(hline:(apos.endLine==pos.line)=true:=by rfl)(hs:∀ i,starEach [e] (F.cx i).env=[(false,eval e (F.cx i).env)]:=by intro _;rfl):Ev F (.Call (.Attribute o "startswith" apos) [e] [] pos) ρ (tb (Txt.startswith z y)) :=
 Ee (r:=Lw) PySem.F.slot_str_startswith PySem.F.type_str_startswith (fun i=>Ue) ho (ah ha ao hs) (fun G H vs Q s hv k=>by
  obtain ⟨y',rfl,oW⟩:=iU hv
  rw [aB oW]
  exact ⟨z,y,rfl,rfl,k.sc s rfl⟩) d8 fS hline hs (fun _=>rfl)
end
section
variable {X:Cx}
def MF (K:Frag):V->List V->Hp->VK->Prop:=fun x vs H Q=>∃ z l ys,x=.str z/\vs=[.ref l]/\aF K H l (ys.map V.str)/\(ys.map (fun x=>x.length)).sum+ys.length*z.length<=16777216/\Q (.str (Txt.join z ys)) H
theorem Vc:nu X "str.join" (MF X.K):=by
 intro pins s σ H x vs v us Q I rx rv h
 obtain ⟨z,l,ys,rfl,rfl,hH,hz,q⟩:=h
 obtain ⟨t,rfl⟩:=rx
 obtain ⟨u,rfl,ru⟩:=rv.one
 cases ru
 obtain ⟨its,r,⟨⟨cl,dd,da,sl⟩,n,e,c1,c2,d1⟩,_⟩:=I.list hH
 simp only at c1 d1
 subst c1 d1
 exact PyProof.Rows.join_list (ys:=ys) ⟨_,e,rfl,_,rfl⟩ (by simpa using Lx r) hz fun t' k=>⟨.str _,H,I.tok _,⟨_,rfl⟩,q⟩
end
section
variable {ι:Type}{F:aQ ι}{e a b o tg:Expr}{es:List Expr}{ρ:En}{t ta cM:Tr}{ts:List Tr}{pos:Pos}
theorem nX {z:PySem.Str}{ws:List PySem.Str}(ho:Ev F o ρ (tx z))(ha:Ev F e ρ ta)(ea:er ta=ag ws)(hz:(ws.map (fun x=>x.length)).sum+ws.length*z.length<=16777216){apos:Pos}(d8:∀ i,attributeBase o "join" (F.cx i).env (eval o (F.cx i).env)=eval o (F.cx i).env:=by intro _;rfl)(fS:∀ i,((backTo pos (starEach [e] (F.cx i).env)).all (fun x=>!x.1)&&(backToKw pos (keywordEach [] (F.cx i).env)).all (fun x=>x.1.isSome)&&decide (([e]:List Expr).length+([]:List Keyword).length+(if ([]:List Keyword).isEmpty then 0 else 1)<30))=true:=by intro _;rfl)(hline:(apos.endLine==pos.line)=true:=by rfl)(hs:∀ i,starEach [e] (F.cx i).env=[(false,eval e (F.cx i).env)]:=by intro _;rfl):Ev F (.Call (.Attribute o "join" apos) [e] [] pos) ρ (tx (Txt.join z ws)) :=
 Ee (r:=MF F.K) PySem.F.slot_str_join PySem.F.type_str_join (fun i=>F.hK i ▸ Vc) ho (ah ha ao hs) (fun G H vs Q s hv k=>by
  obtain ⟨x,rfl,hx⟩:=iU hv
  rw [ea] at hx
  obtain ⟨l,us,rfl,h1,h2⟩:=hx
  rw [wO h2] at h1
  exact ⟨z,l,ws,rfl,rfl,s.seq h1,hz,k.sc s rfl⟩) d8 fS hline hs (fun _=>rfl)
theorem xn {z:PySem.Str}(hm:F.mg "len" = none)(ha:Ev F e ρ (tx z))(hz:z.length<=sizeLine){p':Pos}(hg:∀ i,Gl (F.cx i) "len" := by intro _;rfl)(hs:∀ i,starEach [e] (F.cx i).env=[(false,eval e (F.cx i).env)]:=by intro _;rfl):Ev F (.Call (.Name "len" p') [e] [] pos) ρ (ti z.length) :=
 wK (fun i=>SH) hm xB (ah ha ao hs) (fun G H vs Q s hv k=>by
  obtain ⟨x,rfl,hx⟩:=iU hv
  rw [aB hx]
  exact ⟨z,rfl,hz,k.sc s rfl⟩) hg (by decide) (by decide) hs (fun _=>rfl)
theorem L7 {n:Int}(hm:F.mg "str" = none)(ha:Ev F e ρ (ti n))(hz:n.natAbs.log2<1920){p':Pos}(hg:∀ i,Gl (F.cx i) "str" := by intro _;rfl)(hs:∀ i,starEach [e] (F.cx i).env=[(false,eval e (F.cx i).env)]:=by intro _;rfl):Ev F (.Call (.Name "str" p') [e] [] pos) ρ (tx (toString n)) :=
 wL (fun i=>SA) hm vd (ah ha ao hs) (fun G H vs Q s hv k=>by
  obtain ⟨x,rfl,hx⟩:=iU hv
  rw [aB hx]
  exact ⟨n,rfl,hz,k.sc s rfl⟩) hg (by decide) (by decide) hs (fun _=>rfl)
theorem DR {z:PySem.Str}{n:Int}(hm:F.mg "int" = none)(ha:Ev F e ρ (tx z))(hn:intText? z=some n)(hz:z.length<=640){p':Pos}(hg:∀ i,Gl (F.cx i) "int" := by intro _;rfl)(hs:∀ i,starEach [e] (F.cx i).env=[(false,eval e (F.cx i).env)]:=by intro _;rfl):Ev F (.Call (.Name "int" p') [e] [] pos) ρ (ti n) :=
 wL (fun i=>Sb) hm Mt (ah ha ao hs) (fun G H vs Q s hv k=>by
  obtain ⟨x,rfl,hx⟩:=iU hv
  rw [aB hx]
  exact ⟨z,n,rfl,hn,hz,k.sc s rfl⟩) hg (by decide) (by decide) hs (fun _=>rfl)
theorem nY {x y:PySem.Str}(ha:Ev F a ρ (tx x))(hb:Ev F b ρ (tx y))(hz:x.length+y.length<=sizeLine):Ev F (.BinOp a .Add b pos) ρ (tx (x++y)) :=
 oi (fun _=>Th) ha hb fun G H u v Q s hx hy k=>⟨x,y,aB hx,aB hy,hz,k.sc s rfl⟩
def jC (x y:PySem.Str):Bool:=!(Builtin.Str.occurrences y x 0 y.length 1).isEmpty
theorem MG {x y:PySem.Str}(ha:Ev F a ρ (tx x))(hb:Ev F b ρ (tx y))(hm:behindInMarks .In b=false):Ev F (.Compare a [.In] [b] pos) ρ (tb (jC x y)) :=
 oj (fun _=>T7) ha hb (fun G H u v Q s hx hy k=>⟨x,y,aB hx,aB hy,k⟩) hm
theorem Xk {x:PySem.Str}{k:Int}{c:Nat}(ha:Ev F a ρ (tx x))(hb:Ev F b ρ (ti k))(hz:x.length<=sizeLine)(hc:cC x.cps.toList k=some c)(hs:w8 b:=by exact fun _ _=>rfl):Ev F (.Subscript a b pos) ρ (tx ⟨#[c]⟩):=by
 obtain ⟨τ,p,q⟩:=ha.use
 obtain ⟨bX,p',q'⟩:=hb.use
 refine ⟨iX N5 τ bX,fun i=>qh WR (p i) (p' i) hs,fun σ G H Q s rr k=>?_⟩
 refine q σ G H _ s rr fun x G1 H1 s1 hx=>q' σ G1 H1 _ s1.s (rr.mono s1.g) fun y G2 H2 s2 hy=>?_
 exact ⟨_,_,c,aB hx,aB hy,hz,hc,(k.step (s1.trans s2)).sc s2.s rfl⟩
def signs (x:PySem.Str):List PySem.Str:=x.cps.toList.map fun c=>⟨#[c]⟩
theorem L8 {x:PySem.Str}(ha:Ev F e ρ (tx x)):aX F tg e ρ ((signs x).map ds):=by
 obtain ⟨τ,p,q⟩:=ha.use
 refine ⟨Oa τ,fun i=>W3 (p i),fun σ G H R s r k=>q σ G H _ s r fun v G1 H1 s1 hx=>?_⟩
 rw [aB hx]
 refine ⟨x,rfl,k _ G1 H1 s1 fun j G2 H2 sg sh=>⟨fun d hd=>?_,fun hz=>?_⟩⟩
 ·unfold signs at hd
  rw [qr,i4] at hd
  obtain ⟨c,hc,rfl⟩:=aba.mp hd
  rw [aci] at hc
  refine ⟨(OF.mp hc).1,?_⟩
  rintro y H3 ⟨rfl,c',fT,rfl⟩
  rw [hc] at fT
  cases fT
  exact ⟨G2,.refl sh,⟨rfl,rfl⟩⟩
 ·unfold signs at hz
  rw [aa,aa,AN] at hz
  show x.cps.size<=j
  omega
end
def aL {α:Type}(n:Nat)(l:List α):List α:=(List.range ((l.length-n+1) / 2)).filterMap fun k=>l[n+2*k]?
theorem Vd (n:Nat)(its:List Value):slicePick its.toArray (some (n:Int)) none (some 2)=(aL n its).toArray:=by
 unfold slicePick
 congr 1
 have e:sliceBounds (some (n:Int)) none (some 2) its.toArray.size=(((min n its.length:Nat):Int),(its.length:Int),2):=by
  simp [sliceBounds]
  omega
 rw [e]
 unfold sliceRange aL
 have ec:(if (2:Int) > 0 then (if ((min n its.length:Nat):Int)<(its.length:Int) then ((its.length:Int)-((min n its.length:Nat):Int)+2-1) / 2 else 0) else (if ((min n its.length:Nat):Int) > (its.length:Int) then (((min n its.length:Nat):Int)-(its.length:Int)-2-1) / (-2) else 0)).toNat=(its.length-n+1) / 2:=by
  rw [Cn (by decide)]
  by_cases h:((min n its.length:Nat):Int)<(its.length:Int)
  ·rw [Cn h];omega
  ·rw [AM h];omega
 simp only [ec]
 rw [List.filterMap_map]
 apply sf
 intro k hk
 have Qt:=NO.mp hk
 show its.toArray[(((min n its.length:Nat):Int)+2*(k:Int)).toNat]?=its[n+2*k]?
 rw [List.getElem?_toArray]
 congr 1
 omega
theorem Cz {xs:List V}{its:List Value}(r:Vals xs its):∀ l:List Nat,Vals (l.filterMap fun k=>xs[k]?) (l.filterMap fun k=>its[k]?)
 |[] => .nil
 |k::l=>by
  rw [Lu,Lu]
  have key:∀ {xs:List V} {its:List Value},Vals xs its->∀ k:Nat,(xs[k]?=none/\its[k]?=none)\/∃ x v,xs[k]?=some x/\its[k]?=some v/\RelV x v:=fun {xs its} r=>by
   induction r with
   |nil=>intro k;exact .inl ⟨by simp,by simp⟩
   |cons h t ih =>
    intro k
    cases k with
    |zero=>exact .inr ⟨_,_,rfl,rfl,h⟩
    |succ k=>simpa using ih k
  rcases key r k with ⟨h1,h2⟩ | ⟨x,v,h1,h2,h3⟩
  ·rw [h1,h2];exact Cz r l
  ·rw [h1,h2];exact .cons h3 (Cz r l)
theorem xD {α:Type}(n:Nat)(l:List α):aL n l=((List.range ((l.length-n+1) / 2)).map fun k=>n+2*k).filterMap fun k=>l[k]?:=by
 unfold aL
 rw [List.filterMap_map];rfl
theorem Ve {xs:List V}{its:List Value}(r:Vals xs its)(n:Nat):Vals (aL n xs) (aL n its):=by
 rw [xD,xD,r.length]
 exact Cz r _
def Ou (K:Frag)(n:Nat)(te tl ts:TE):TE:=fun σ H Q=>te σ H fun x H1=>xO tl σ H1 fun ol H2=>xO ts σ H2 fun o H3=>∃ a xs,ol=some (n:Int)/\o=some 2/\x=.ref a/\aF K H3 a xs/\∀ p,H3 p=none->Q (.ref p) (upd H3 p (.lst (aL n xs)))
theorem uP {α:Type}(n:Nat)(l:List α):(aL n l).length<=l.length:=by
 unfold aL
 refine EM (List.length_filterMap_le _ _) ?_
 rw [BY];omega
section
variable {X:Cx}{e lo st:Expr}{te tl ts:TE}{p2 pos:Pos}
theorem Xl {n:Nat}(he:PE X e te)(hl:PE X lo tl)(ht:PE X st ts):PE X (.Subscript e (.Slice (some lo) none (some st) p2) pos) (Ou X.K n te tl ts):=by
 intro pins s σ H Q I h
 refine Subscript_ (aj (he pins s σ H _ I h) fun v s1 ⟨x,H1,I1,r1,q1⟩=>?_)
 refine wpAny_Slice ?_
 refine aj (DF hl pins s1 σ H1 _ I1 q1) fun vl s2 ⟨ol,H2,I2,pl,q2⟩=>?_
 rw [evalPart_none]
 refine wb ?_
 refine aj (DF ht pins s2 σ H2 _ I2 q2) fun vs s3 ⟨o,H3,I3,ps,q3⟩=>?_
 ·obtain ⟨a,xs,rfl,rfl,rfl,hx,q⟩:=q3
  cases r1
  have I4:Inv X pins σ H3 { s3 with heap:=s3.heap.push { cls:=.type "slice",data:=.fields #[vl,.none,vs] } }:=I3.kept (t':=s3.toks) fun b ob q=>gc _ q
  obtain ⟨its,r,Qu,hz⟩:=I4.list hx
  have hlen:=r.length
  show wpAny (model X.prog X.w) X.A (subscriptTail e (.Slice (some lo) none (some st) p2) (.ref a) (.ref s3.heap.objs.size)) (EP X pins σ Q) X.xe { s3 with heap:=s3.heap.push { cls:=.type "slice",data:=.fields #[vl,.none,vs] } }
  refine tail_any (ops:=[.ref a,.ref s3.heap.objs.size]) Qu.isList.typeIs acI.lookup (wpAny_getItem_list_slice Qu.isList (Heap.IsSliceOf.new ..) pl .none ps (by simp) ?_ (by rw [i8]<;>omega)) (by with_unfolding_all rfl)
  rw [Vd]
  refine ⟨.ref _,_,I4.laid (o:=.lst (aL n xs)) (fun b ob q=>gc _ q) (ee _) ?_,rfl,q _ (I4.aq.fresh (ee _))⟩
  exact ⟨EM (uP n xs) hz,_,0,Ve r n,ze _ rfl⟩
end
section
variable {ι:Type}{F:aQ ι}{a lo st:Expr}{ρ:En}{ta:Tr}{pos:Pos}
theorem Dj {K:Frag}{G:Hp}{dd:List Dv}{vs:List V}(h:aU K G dd vs):∀ l:List Nat,aU K G (l.filterMap fun k=>dd[k]?) (l.filterMap fun k=>vs[k]?)
 |[] => rfl
 |k::l=>by
  rw [Lu,Lu]
  cases e:dd[k]? with
  |none =>
   have:vs[k]?=none:=by
    have:=(List.getElem?_eq_none_iff (l:=dd)).mp e
    exact Lo (by rw [<- h.length];exact this)
   rw [this];exact Dj h l
  |some d =>
   obtain ⟨v,h1,h2⟩:=h.get e
   rw [h1]
   exact ⟨v,_,rfl,h2,Dj h l⟩
theorem ot {xs:List Dv}{n:Nat}{p2:Pos}(ha:Ev F a ρ ta)(ea:er ta=.lst xs)(hl:Ev F lo ρ (ti n))(hb:Ev F st ρ (ti 2)):Ev F (.Subscript a (.Slice (some lo) none (some st) p2) pos) ρ (.ow ((aL n xs).map .fz)):=by
 obtain ⟨τ,p,q⟩:=ha.use
 obtain ⟨τl,pl,ql⟩:=hl.use
 obtain ⟨bX,p',q'⟩:=hb.use
 refine ⟨Ou F.K n τ τl bX,fun i=>F.hK i ▸ Xl (p i) (pl i) (p' i),fun σ G H Q s rr k=>?_⟩
 refine q σ G H _ s rr fun x G1 H1 s1 hx=>ql σ G1 H1 _ s1.s (rr.mono s1.g) fun y G2 H2 s2 hy=>⟨n,aB hy,q' σ G2 H2 _ s2.s (rr.mono (s1.g.trans s2.g)) fun z G3 H3 s3 hz=>?_⟩
 rw [ea] at hx
 obtain ⟨b,vs,rfl,h1,h2⟩:=hx
 refine ⟨2,aB hz,b,vs,rfl,rfl,rfl,((s2.g.trans s3.g).trans s3.s).seq h1,fun p hp=>(k.step ((s1.trans s2).trans s3)).lst s3.s ?_ hp⟩
 have:=Dj (h2.mono (s2.g.trans s3.g)) ((List.range ((vs.length-n+1) / 2)).map fun k=>n+2*k)
 have e:=xD n vs
 have e2:=xD n xs
 rw [e,e2,h2.length]
 exact this.lW
end
end L2
namespace Sx
open PySem PySem.Spec PyProof.Rows
theorem Np (x:Str)(t:Tok):Value.isStrOf x (.str x t)=true:=by simp [Value.isStrOf]
def cntK (ws:List Str):Nat->Nat
 |0=>0
 |j+1=>if (ws.take j).any (·==ws.getD j ⟨#[]⟩) then cntK ws j else cntK ws j+1
theorem uQ (ws:List Str):∀ j,cntK ws j<=j
 |0=>ee _
 |j+1=>by
  have:=uQ ws j
  unfold cntK
  split<;>omega
abbrev jD (prog:Program)(w:World)(ws:List Str)(a:Addr)(j:Nat)(h:Heap):Prop:=h.SetOf (PySem.strKind prog w) a (fun z=>(ws.take j).any (·==z)) (cntK ws j)
theorem DS:∀ {its:List Value} {ws:List Str},StrsAre its ws->its.length=ws.length/\∀ (j:Nat) (v:Value),its[j]?=some v->∃ t,v=.str (ws.getD j ⟨#[]⟩) t
 |_,_,.nil=>⟨rfl,fun j v h=>by cases h⟩
 |_,_,.cons y t r=>by
  obtain ⟨h1,h2⟩:=DS r
  refine ⟨by rw [mf,mf,h1],fun j v h=>?_⟩
  cases j with
  |zero=>exact ⟨t,(AE h).symm⟩
  |succ j=>exact h2 j v h
section
variable {prog:Program}{w:World}{A:Around}{E:Value->Shared->Prop}{s:Shared}{R:Result->Shared->Prop}{I:Addr}{fp wr:List Addr}{G:Array GenState->Array GenState->Prop}{n:Nat}{P:Nat->Value->Prop}{St:Nat->Shared->Prop}
theorem jD.at {ws:List Str}{a:Addr}{j:Nat}{h h':Heap}(x:jD prog w ws a j h)(e:∀ o,h.get? a=some o->h'.get? a=some o):jD prog w ws a j h':=by
 obtain ⟨o,es,ep,tb,ho,q⟩:=x
 exact ⟨o,es,ep,tb,e _ ho,q⟩
theorem jD.next {ws:List Str}{a:Addr}{j:Nat}(hj:j<ws.length){h:Heap}{S:Str->Bool}{m:Nat}(x:h.SetOf (PySem.strKind prog w) a S m)(e1:∀ z,S z=((ws.take j).any (·==z) || decide (z=ws.getD j ⟨#[]⟩)))(e2:m=if (ws.take j).any (·==ws.getD j ⟨#[]⟩) then cntK ws j else cntK ws j+1):jD prog w ws a (j+1) h:=by
 have g:ws[j]?=some (ws.getD j ⟨#[]⟩):=by rw [br,ar hj];rfl
 refine SetOf_congr x (fun z=>?_) (by rw [e2];rfl)
 rw [e1,L2.nQ g,List.any_append]
 congr 1
 show decide (z=_)=((_==z) || false)
 rw [Bool.or_false,abU,Pe,GG]
 exact eq_comm
theorem Uy (W:WalksS prog w A.in1 I fp wr G n P St){a:Addr}(off:a ∉ fp){ws:List Str}(hn:n=ws.length)(hv:∀ j v,P j v->∃ t,v=.str (ws.getD j ⟨#[]⟩) t)(hb:n+1<scanBound) :
  ∀ (d j:Nat) (s:Shared),n-j=d->j<=n->St j s->jD prog w ws a j s.heap->(∀ s',Moved (a::wr) G s s'->jD prog w ws a n s'.heap->R (.ok (.ret .none)) s')->codeAny (model prog w) A (.builtin "set.update.loop" ⟨[.ref a,.ref I],[]⟩) R s:=by
 have aw:a ∉ wr:=fun z=>off (W.sub _ z)
 have more:∀ b ∈ wr,b ∈ a::wr:=fun b z=>.tail _ z
 intro d
 induction d with
 |zero =>
  intro j s hd hj st x k
  have ej:j=n:=by omega
  subst ej
  refine abt abC ?_
  rw [aco PM _]
  refine ba (W.done s _ _ st fun s2 mv=>wb (k s2 (mv.mono more) (x.at fun o e=>mv.heap a o aw e)))
 |succ d ih =>
  intro j s hd hj st x k
  have lt:j<n:=by omega
  refine abt abC ?_
  rw [aco PM _]
  refine ba (W.item j s _ _ lt st fun v s2 hp bO mv=>?_)
  obtain ⟨t,rfl⟩:=hv j v hp
  have x2:=x.at (h':=s2.heap) fun o e=>mv.heap a o aw e
  refine ba (LB ?_)
  unfold setAdd
  refine LB (ba ((PySem.strKind prog w).pyHash (k:=ws.getD j ⟨#[]⟩) (Np _ t) ?_))
  refine wpAny_setAddHashed_of (knd:=PySem.strKind prog w) (s:={ s2 with toks:=s2.toks+1 }) (Np _ t) rfl x2 (by have:=uQ ws j;omega) fun h3 sb x3=>?_
  refine wb ⟨plainId_quiet PM _,ih (j+1) _ (by omega) lt (W.frame _ s2 _ _ bO (Mn _) fun b z o e=>?_) (jD.next (by omega) x3 (fun _=>rfl) rfl) fun s4 mv4 x4=>?_⟩
  ·rw [sb.2 b fun z':b=a=>off (z' ▸ z)];exact e
  ·refine k s4 (Moved.trans W.gtrans ((mv.mono more).then_heap (Mn _) fun b o z e=>?_) mv4) x4
   rw [sb.2 b fun z':b=a=>z (by rw [z'];exact .head _)];exact e
theorem Uz {l a:Addr}{its:List Value}{ws:List Str}{led:Bool}{Q:Value->Shared->Prop}(hh:A.handled=none)(hl:s.heap.IsList l its.toArray)(hi:StrsAre its ws)(hb:ws.length+1<scanBound)(ha:s.heap.get? a=some (L2.tF led))(la:l ≠ a)(k:∀ h' tk,(∀ b o,b ≠ a->s.heap.get? b=some o->h'.get? b=some o)->jD prog w ws a ws.length h'->Q .none { s with heap:=h',toks:=tk }) :
  wpAny (model prog w) A.in1 (Builtin.«set.__init__» ⟨[.ref a,.ref l],[]⟩) (fun fin s'=>∃ r,fin=.done (.ret r)/\Q r s') E s:=by
 obtain ⟨ol,He,kI,nl,Qv⟩:=id hl
 obtain ⟨abm,abh,abi,abg⟩:=ol
 simp only at kI Qv
 subst kI Qv
 have u1:=F.sub_list_set
 have u2:=F.sub_list_frozenset
 have u3:(Value.type "list" == Value.type "dict")=false:=by decide
 unfold L2.tF at ha
 unfold Builtin.«set.__init__» noKeywords Builtin.Frozenset.updateFrom
 generalize hPI:pyIter=PI
 obtain ⟨h0,g0,d0,t0,o0⟩:=s
 wp_walk
 subst hPI
 refine ab6 hl (ba (wpAny_runValue ?_))
 have hh3:A.in1.in1.handled=none:=by simp [hh]
 have lI:l ≠ h0.objs.size:=xp (lp He)
 have aI:a ≠ h0.objs.size:=xp (lp ha)
 have lU:its.toArray.size=ws.length:=by rw [i8];exact (DS hi).1
 refine Uy ((Walks.list hh3 h0.objs.size l lI its.toArray).toS) (a:=a) (by simp only [gr,LG,abZ,not_or];exact ⟨aI,la.symm⟩) lU (fun j v hv=>?_) (by rw [lU];exact hb) (its.toArray.size-0) 0 _ (by omega) (Cs _) ⟨⟨_,ze _ rfl,rfl,rfl⟩,hl.push _⟩ ?_ ?_
 ·exact (DS hi).2 j v (by rw [List.getElem?_toArray] at hv;exact hv)
 ·refine SetOf_congr ((setObjOf_fresh (knd:=PySem.strKind prog w) led).setOf (gc _ ha) (by unfold scanBound;omega)) (fun _=>rfl) rfl
 ·intro s' mv x
  obtain ⟨h',g',d',tk',qR⟩:=s'
  have eg:g'=g0:=mv.gens
  have ed:d'=d0:=mv.drawn
  have eo:qR=o0:=mv.os
  subst eg ed eo
  rw [lU] at x
  refine wb (wb ⟨_,rfl,k h' tk' (fun b o hb e=>mv.heap b o ?_ (gc _ e)) x⟩)
  simp only [gr,LG,abZ,not_or]
  exact ⟨hb,xp (lp e)⟩
set_option maxHeartbeats 3200000 in
theorem UA {l:Addr}{its:List Value}{ws:List Str}{Q:Value->Shared->Prop}(hh:A.handled=none)(hl:s.heap.IsList l its.toArray)(hi:StrsAre its ws)(hb:ws.length+1<scanBound)(k:∀ (h':Heap) (tk:Nat),jD prog w ws s.heap.objs.size ws.length h'->(∀ b o,s.heap.get? b=some o->h'.get? b=some o)->Q (.ref s.heap.objs.size) { s with heap:=h',toks:=tk }) :
  wpAny (model prog w) A (call (.type "set") [.ref l]) Q E s:=by
 obtain ⟨c,tl,abn⟩:=abw.mro
 have abj:=abw.made
 have vC:=abw.sub
 refine abH (codeAny_of_tree ?_)
 show wpAny _ _ (callAny (.type "set") _) _ _ _
 refine wb ⟨abY _ (by decide +kernel),abt F.entry_type_call ?_⟩
 rw [Around.under_plain (weight_type_call_type "set" [.ref l] []) rfl]
 have h1:=abw.notType
 have h2:=abw.canCreate
 have hct:=F.typeCall_set_1 (.ref l)
 repeat (any_goals (first | assumption | wp_step))
 obtain ⟨led,YR⟩:∃ led,led = !w.params.followText "set-order" := ⟨_,rfl⟩
 obtain ⟨Z,eZ⟩:∃ Z:Value->Shared->Prop,Z=fun r je=>r=.none/\∃ h' tk,je={ s with heap:=h',toks:=tk }/\jD prog w ws s.heap.objs.size ws.length h'/\∀ b o,s.heap.get? b=some o->h'.get? b=some o:=⟨_,rfl⟩
 refine YE (L2.Us (.ref l) (E:=E) (Q₁:=fun obj bf=>obj=.ref s.heap.objs.size/\bf={ s with heap:=s.heap.push (L2.tF led) }) ⟨rfl,by rw [YR];rfl⟩) fun r bf hr=>?_
 cases r with
 |error e=>exact hr
 |ok fl =>
  cases fl with
  |ret obj =>
   obtain ⟨rfl,rfl⟩:=hr
   have hS:(s.heap.push (L2.tF led)).get? s.heap.objs.size=some (L2.tF led):=ze _ rfl
   have hT:Shared.TypeIs { s with heap:=s.heap.push (L2.tF led) } (.ref s.heap.objs.size) "set" := ⟨_,hS,rfl⟩
   have GK:=abw.init.lookup
   have hbi:=abw.init.bind (.ref s.heap.objs.size)
   repeat (any_goals (first | assumption | wp_step))
   refine YE (Po (R:=wants Z E) abw.init.plain F.entry_set_init (check_set_init_1 hT ?_)) fun YS je sT=>?_
   ·refine ET (Uz (A:=A.in1) (by simp [hh]) (hl.push _) hi hb hS ?_ (Q:=Z) fun h' tk hk x=>?_) (fun fin s' x=>?_) fun e s' x=>x
    ·obtain ⟨ol,He,_⟩:=hl
     exact xp (lp He)
    ·rw [eZ]
     exact ⟨rfl,h',tk,rfl,x,fun b o e=>hk b o (xp (lp e)) (gc _ e)⟩
    ·obtain ⟨r,rfl,x⟩:=x
     exact x
   ·cases YS with
    |error e=>exact sT
    |ok Yl =>
     cases Yl with
     |ret r =>
      have sT:Z r je:=sT
      rw [eZ] at sT
      obtain ⟨rfl,h',tk,rfl,x,Qt⟩:=sT
      repeat (any_goals (first | assumption | wp_step))
      exact k _ _ x Qt
     |_=>exact sT.elim
  |_=>exact hr.elim
end
theorem J7 {ws:List Str}:∀ j,j<=ws.length->cntK ws j=j->(ws.take j).Nodup
 |0,_,_=>.nil
 |j+1,hj,h=>by
  have g:ws[j]?=some (ws.getD j ⟨#[]⟩):=by rw [br,ar hj];rfl
  have le:=uQ ws j
  unfold cntK at h
  split at h
  ·omega
  ·rename_i hn
   have ih:=J7 (ws:=ws) j (by omega) (by omega)
   rw [L2.nQ g]
   refine ue.mpr ⟨ih,BB.mpr ⟨(fun z=>nomatch z),.nil⟩,fun x hx y hy e=>hn ?_⟩
   rw [mT.mp hy] at e
   exact abF.mpr ⟨x,hx,GG.mpr e⟩
theorem L9 {ws:List Str}(nd:ws.Nodup):∀ j,j<=ws.length->cntK ws j=j
 |0,_=>rfl
 |j+1,hj=>by
  have g:ws[j]?=some (ws.getD j ⟨#[]⟩):=by rw [br,ar hj];rfl
  have new:(ws.take j).any (·==ws.getD j ⟨#[]⟩)=false:=by
   rw [RI]
   intro y hy he
   have he:=GG.mp he
   obtain ⟨i,hi,ei⟩:=List.mem_take_iff_getElem.mp hy
   obtain ⟨GV,ej⟩:=gz.mp g
   have:=(aaa nd).mp (ei.trans (he.trans ej.symm))
   omega
  unfold cntK
  rw [new,L9 nd j (by omega)]
  rfl
theorem DT {ws:List Str}(nd:ws.Nodup):cntK ws ws.length=ws.length:=L9 nd _ (ee _)
theorem Dk {ws:List Str}:cntK ws ws.length=ws.length ↔ ws.Nodup:=⟨fun h=>by have:=J7 ws.length (ee _) h;rwa [acm] at this,DT⟩
end Sx
namespace L2
open PySem PySem.Spec PyProof.Rows
def sU (P:Program)(w:World)(l:Addr)(ws:List PySem.Str):HO:=.ext fun h=>Sx.jD P w ws l ws.length h
section
variable {X:Cx}
def Nq (K:Frag)(P:Program)(w:World):List V->Hp->VK->Prop:=fun xs H Q=>∃ (p:Addr) (ws:List PySem.Str),xs=[.ref p]/\aF K H p (ws.map V.str)/\ws.length<1000/\∀ l,H l=none->Q (.ref l) (upd H l (sU P w l ws))
theorem UB (hc:X.calm=true):fm X (.type "set") (Nq X.K X.prog X.w):=by
 intro pins s σ H xs us Q I r h
 obtain ⟨p,ws,rfl,hq,hz,q⟩:=h
 obtain ⟨u,rfl,rx⟩:=vals1 r
 cases rx
 obtain ⟨its,rv,pl,_⟩:=I.list hq
 refine Sx.UA (I.ok.hd hc) pl.isList (Lx rv) (rb (Nat.succ_lt_succ hz) (by decide)) fun h' tk x kp=>?_
 refine ⟨.ref s.heap.objs.size,_,I.laid (t':=tk) (o:=sU X.prog X.w s.heap.objs.size ws) kp (ee _) ⟨x,?_,fun h1 h2 x e=>x.at e⟩,rfl,q _ (I.aq.fresh (ee _))⟩
 obtain ⟨o,_,_,_,ho,_⟩:=x
 exact ⟨o,ho⟩
theorem UC:fm X (.builtin "len") (fun xs H Q=>∃ p ws,xs=[.ref p]/\H p=some (sU X.prog X.w p ws)/\Q (.int ((Sx.cntK ws ws.length:Nat):Int)) H):=by
 intro pins s σ H xs us Q I r h
 obtain ⟨p,ws,rfl,hH,q⟩:=h
 obtain ⟨u,rfl,rx⟩:=vals1 r
 cases rx
 obtain ⟨x,_,_⟩:=(show dD X.prog X.w H s.heap p (sU X.prog X.w p ws) from I.aq p _ hH)
 obtain ⟨o,es,ep,t,h1,h2,h3,_,_,h4,h5,h6⟩:=(show Sx.jD X.prog X.w ws p ws.length s.heap from x)
 rw [<- h6] at q
 exact call_len_set h1 h2 h3 h5 (by have:es.size<4096:=h4;omega) ⟨.int _,H,I.tok _,⟨_,rfl⟩,q⟩
end
section
variable {ι:Type}{F:aQ ι}{a:Expr}{ρ:En}{ta:Tr}{pos:Pos}
theorem pJ {ws:List PySem.Str}(hm:F.mg "len" = none)(kK:F.mg "set" = none)(ha:Ev F a ρ ta)(ea:er ta=ag ws)(hz:ws.length<1000){p1 p2 pos1:Pos}(hg:∀ i,Gl (F.cx i) "len" := by intro _;rfl)(nG:∀ i,Gl (F.cx i) "set" := by intro _;rfl)(hs:∀ i,starEach [a] (F.cx i).env=[(false,eval a (F.cx i).env)]:=by intro _;rfl)(fG:∀ i,starEach [.Call (.Name "set" p2) [a] [] pos1] (F.cx i).env=[(false,eval (.Call (.Name "set" p2) [a] [] pos1) (F.cx i).env)]:=by intro _;rfl) :
  Ev F (.Call (.Name "len" p1) [.Call (.Name "set" p2) [a] [] pos1] [] pos) ρ (ti ((Sx.cntK ws ws.length:Nat):Int)):=by
 obtain ⟨τ,p,q⟩:=ha.use
 refine ⟨nr (fun xs H Q=>∃ p ws,xs=[.ref p]/\H p=some (sU F.P F.w p ws)/\Q (.int ((Sx.cntK ws ws.length:Nat):Int)) H) (aT (nr (Nq F.K F.P F.w) (aT τ ck)) ck),fun i=>fL (F.hP i ▸ F.hw i ▸ UC) (hg i) ((F.hm i).symm ▸ hm) xB (au (wG (F.hK i ▸ F.hP i ▸ F.hw i ▸ UB (F.calm i)) (nG i) ((F.hm i).symm ▸ kK) MA (au (p i) aV (hs i)) (by decide) (by decide) (hs i) rfl) aV (fG i)) (by decide) (by decide) (fG i) rfl,fun σ G H Q s rr k=>?_⟩
 refine q σ G H _ s rr fun x G1 H1 s1 hx=>?_
 rw [ea] at hx
 obtain ⟨l,ys,rfl,h1,h2⟩:=hx
 rw [wO h2] at h1
 refine ⟨l,ws,rfl,s1.s.seq h1,hz,fun l0 vY=>⟨l0,ws,rfl,bT,?_⟩⟩
 exact (k.step (s1.trans (Step.lO (o:=sU F.P F.w l0 ws) s1.s vY))).sc (s1.s.trans (ai.new vY)) rfl
theorem Tw {ws:List PySem.Str}(hm:F.mg "len" = none)(kK:F.mg "set" = none)(ha:Ev F a ρ ta)(ea:er ta=ag ws)(nd:ws.Nodup)(hz:ws.length<1000){p1 p2 pos1:Pos}(hg:∀ i,Gl (F.cx i) "len" := by intro _;rfl)(nG:∀ i,Gl (F.cx i) "set" := by intro _;rfl)(hs:∀ i,starEach [a] (F.cx i).env=[(false,eval a (F.cx i).env)]:=by intro _;rfl)(fG:∀ i,starEach [.Call (.Name "set" p2) [a] [] pos1] (F.cx i).env=[(false,eval (.Call (.Name "set" p2) [a] [] pos1) (F.cx i).env)]:=by intro _;rfl) :
  Ev F (.Call (.Name "len" p1) [.Call (.Name "set" p2) [a] [] pos1] [] pos) ρ (ti (ws.length:Nat)):=by
 have:=pJ (p1:=p1) (p2:=p2) (pos1:=pos1) (pos:=pos) hm kK ha ea hz hg nG hs fG
 rwa [Sx.DT nd] at this
end
section
variable {ι:Type}{F:aQ ι}{e a b o:Expr}{ρ:En}{t ta cM:Tr}{pos:Pos}
theorem KG (w:PySem.Str):∀ ws:List PySem.Str,yA (.str w) (ws.map V.str)=ws.contains w
 |[] => rfl
 |u::ws=>by
  show (gT (.str u) (.str w) || yA (.str w) (ws.map V.str))=_
  rw [KG w ws,acC]
  congr 1
  exact Bool.beq_comm
theorem in_str {w:PySem.Str}{ws:List PySem.Str}{neg:Bool}(eb:er cM=ag ws){G H:Hp}{x y:V}{Q:VK}(s:ai G H)(hx:Hv F.K G (er (tx w)) x)(hy:Hv F.K G (er cM) y)(k:Q (.bl (if neg then !ws.contains w else ws.contains w)) H):yB F.K neg x y H Q:=by
 rw [eb] at hy
 obtain ⟨l,vs,rfl,h1,h2⟩:=hy
 rw [wO h2] at h1
 rw [aB hx]
 refine ⟨l,_,rfl,.inl (s.seq h1),rfl,J5 ws,?_⟩
 rw [KG]
 exact k
theorem CA {w:PySem.Str}{ws:List PySem.Str}(ha:Ev F a ρ (tx w))(hb:Ev F b ρ cM)(eb:er cM=ag ws)(hm:behindInMarks .NotIn b=false):Et F (.Compare a [.NotIn] [b] pos) ρ (!ws.contains w) :=
 mM (r:=yB F.K true) (fun i=>F.hK i ▸ Jt) ha hb (fun G H x y Q s hx hy k=>in_str eb s hx hy k) hm
theorem J8 {w:PySem.Str}{ws:List PySem.Str}(ha:Ev F a ρ (tx w))(hb:Ev F b ρ cM)(eb:er cM=ag ws)(hm:behindInMarks .NotIn b=false):Ev F (.Compare a [.NotIn] [b] pos) ρ (tb (!ws.contains w)) :=
 oj (r:=yB F.K true) (fun i=>F.hK i ▸ Jt) ha hb (fun G H x y Q s hx hy k=>in_str eb s hx hy k) hm
end
end L2
namespace Sx
open PySem
abbrev one (c:Nat):Str:=⟨#[c]⟩
theorem join_cons (y a b:Str)(r:List Str):Str.join y (a::b::r)=a++y++Str.join y (b::r):=rfl
theorem MH {c:Nat}:∀ {a b x y:List Nat},c ∉ a->c ∉ b->a++c::x=b++c::y->a=b/\x=y
 |[],[],_,_,_,_,h=>⟨rfl,(MW h).2⟩
 |[],b::bs,_,_,_,hb,h=>absurd (MW h).1 fun z=>hb (by rw [z];exact .head _)
 |a::as,[],_,_,ha,_,h=>absurd (MW h).1 fun z=>ha (by rw [<- z];exact .head _)
 |a::as,b::bs,_,_,ha,hb,h=>by
  obtain ⟨e1,e2⟩:=MW h
  obtain ⟨i1,i2⟩:=MH (fun z=>ha (.tail _ z)) (fun z=>hb (.tail _ z)) e2
  exact ⟨by rw [e1,i1],i2⟩
theorem KH {c:Nat}:∀ {ws vs:List Str},ws ≠ []->vs ≠ []->(∀ w ∈ ws,c ∉ w.cps.toList)->(∀ v ∈ vs,c ∉ v.cps.toList)->Str.join (one c) ws=Str.join (one c) vs->ws=vs
 |[],_,h,_,_,_,_=>absurd rfl h
 |_::_,[],_,h,_,_,_=>absurd rfl h
 |[a],[b],_,_,_,_,h=>by
  have h:a=b:=h
  rw [h]
 |[a],b::b2::r,_,_,ha,_,h=>by
  exfalso
  have h:=congrArg (fun z:Str=>z.cps.toList) h
  rw [join_cons,Tx.dI,Tx.dI] at h
  exact ha a (.head _) (by have h:a.cps.toList=_:=h;rw [h];simp)
 |a::a2::r,[b],_,_,_,hb,h=>by
  exfalso
  have h:=congrArg (fun z:Str=>z.cps.toList) h
  rw [join_cons,Tx.dI,Tx.dI] at h
  exact hb b (.head _) (by have h:_=b.cps.toList:=h;rw [<- h];simp)
 |a::a2::r,b::b2::q,_,_,ha,hb,h=>by
  have h:=congrArg (fun z:Str=>z.cps.toList) h
  rw [join_cons,join_cons,Tx.dI,Tx.dI,Tx.dI,Tx.dI] at h
  have h:a.cps.toList++c::(Str.join (one c) (a2::r)).cps.toList=b.cps.toList++c::(Str.join (one c) (b2::q)).cps.toList:=by simpa using h
  obtain ⟨e1,e2⟩:=MH (ha a (.head _)) (hb b (.head _)) h
  rw [Tx.ext e1,KH (by simp) (by simp) (fun w hw=>ha w (.tail _ hw)) (fun v hv=>hb v (.tail _ hv)) (Tx.ext e2)]
theorem JE {c:Nat}{ws:List Str}(h0:ws ≠ [])(h:∀ w ∈ ws,c ∉ w.cps.toList):Txt.split (Str.join (one c) ws) (one c)=ws:=by
 refine KH (c:=c) (fun z=>?_) h0 (StrLaws.split_free _ c) h (StrLaws.join_split _ _)
 have:=PyProof.Rows.split_pos (Str.join (one c) ws) (one c)
 rw [z] at this
 exact absurd this (by decide)
theorem pR (y:Str)(ws:List Str):Txt.join y ws=Str.join y ws:=by
 unfold Txt.join
 exact StrLaws.glued_eq_join y ws
theorem len_cat (x y:Str):(x++y).length=x.length+y.length:=by
 have:=congrArg List.length (Tx.dI x y)
 rw [ir,AN,AN,AN] at this
 exact this
theorem KI (c:Nat):∀ ws:List Str,(Str.join (one c) ws).length<=(ws.map fun w=>w.length+1).sum
 |[] => ee _
 |[a] => by show a.length<=a.length+1+0;omega
 |a::b::r=>by
  have:=KI c (b::r)
  rw [join_cons,len_cat,len_cat]
  show a.length+1+_<=(a.length+1)+((b::r).map fun w=>w.length+1).sum
  omega
theorem mem_join {c d:Nat}:∀ {ws:List Str},d ≠ c->(∀ w ∈ ws,d ∉ w.cps.toList)->d ∉ (Str.join (one c) ws).cps.toList
 |[],_,_=>fun z=>by cases z
 |[a],_,h=>h a (.head _)
 |a::b::r,hd,h=>by
  rw [join_cons,Tx.dI,Tx.dI]
  have h1:=mem_join hd fun w hw=>h w (.tail _ hw)
  have h2:=h a (.head _)
  intro z
  rcases ij.mp z with z | z
  ·rcases ij.mp z with z | z
   ·exact h2 z
   ·exact hd (mT.mp z)
  ·exact h1 z
structure Nm (w:Str):Prop where
 ne : 1<=w.length
 l8:w.length<=8
 ch:∀ c ∈ w.cps.toList,97<=c/\c<=122
abbrev mK:Str := "abcdefghijklmnopqrstuvwxyz"
abbrev sx:Str := "0123456789"
theorem Xm {c:Nat}(h : 97<=c/\c<=122):L2.jC (one c) mK=true:=by
 have:∀ k:Fin 26,L2.jC (one (97+k.val)) mK=true:=by decide +kernel
 have:=this ⟨c-97,by omega⟩
 rwa [show 97+(c-97)=c by omega] at this
theorem Xn {c:Nat}(h : 48<=c/\c<=57):L2.jC (one c) sx=true:=by
 have:∀ k:Fin 10,L2.jC (one (48+k.val)) sx=true:=by decide +kernel
 have:=this ⟨c-48,by omega⟩
 rwa [show 48+(c-48)=c by omega] at this
theorem Nm.free {w:Str}(h:Nm w){c:Nat}(hc:c<97):c ∉ w.cps.toList:=fun z=>by have:=h.ch c z;omega
theorem Nm.ne' {w:Str}(h:Nm w):w ≠ "" := fun z=>by
 have:=h.ne
 rw [z] at this
 exact absurd this (by decide)
end Sx
namespace L2
open PySem PySem.Spec PyProof.Rows
abbrev Nr (ws:List V):List Tr:=ws.map fun v=>Tr.fz (.fl v)
theorem J9 {K:Frag}{G H:Hp}:∀ {ws vs:List V} {fq:List Addr},aM K G H (Nr ws) vs fq->vs=ws/\fq=[]/\ws.all fA=true
 |[],_,_,⟨h1,h2⟩=>⟨h1,h2,rfl⟩
 |w::ws,_,_,⟨v,r,f1,f2,h1,h2,h3,h4⟩=>by
  obtain ⟨e1,e2,e3⟩:=J9 (ws:=ws) h4
  obtain ⟨q1,q2,q3⟩:=h3
  subst h1 h2 e1 e2 q1 q2
  exact ⟨rfl,rfl,by rw [Zl,q3,e3];rfl⟩
end L2
namespace Sx
open PySem
theorem g9 (x y z:Str):x++y++z=x++(y++z):=Tx.ext (by rw [Tx.dI,Tx.dI,Tx.dI,Tx.dI,GS])
theorem join_snoc (y w:Str):∀ {ws:List Str},ws ≠ []->Str.join y (ws++[w])=Str.join y ws++y++w
 |[],h=>absurd rfl h
 |[a],_=>rfl
 |a::b::r,_=>by
  have:=join_snoc y w (ws:=b::r) (by simp)
  show a++y++Str.join y (b::r++[w])=a++y++Str.join y (b::r)++y++w
  rw [this,g9,g9,g9,g9,g9]
def aO (x:Int):Str:=Str.ofString (toString x)
theorem Wa {x:Int}(h : 0<=x):aO x=Tx.S x.toNat:=by
 obtain ⟨n,rfl⟩:=Int.eq_ofNat_of_zero_le h
 rfl
def bV:List Str->LI->List Str
 |a::as,x::xs=>a::aO x::bV as xs
 |[],_=>[]
 |_::_,[] => []
theorem pairs_len:∀ {as:List Str} {xs:LI},as.length=xs.length->(bV as xs).length=2*as.length
 |[],_,_=>rfl
 |_::_,[],h=>by cases h
 |a::as,x::xs,h=>by
  have:=pairs_len (as:=as) (xs:=xs) (abN h)
  show (bV as xs).length+1+1=2*(as.length+1)
  omega
theorem JF:∀ {as:List Str} {xs:LI},as.length=xs.length->∀ k,(bV as xs)[2*k]?=as[k]?
 |[],_,_,_=>by simp [bV]
 |_::_,[],h,_=>by cases h
 |a::as,x::xs,h,0=>rfl
 |a::as,x::xs,h,k+1=>by
  have:=JF (as:=as) (xs:=xs) (abN h) k
  show (a::aO x::bV as xs)[2*k+1+1]?=_
  simpa using this
theorem Ka:∀ {as:List Str} {xs:LI},as.length=xs.length->∀ k,(bV as xs)[2*k+1]?=(xs.map aO)[k]?
 |[],[],_,_=>by simp [bV]
 |[],_::_,h,_=>by cases h
 |_::_,[],h,_=>by cases h
 |a::as,x::xs,h,0=>rfl
 |a::as,x::xs,h,k+1=>by
  have:=Ka (as:=as) (xs:=xs) (abN h) k
  show (a::aO x::bV as xs)[(2*k+1)+1+1]?=_
  simpa using this
theorem Kb {α:Type}:∀ l:List α,((List.range l.length).filterMap fun k=>l[k]?)=l:=fun l=>by
 have:∀ (r:List α) (n:Nat),((List.range' n r.length).filterMap fun k=>r[k-n]?)=r:=by
  intro r
  induction r with
  |nil=>intro n;rfl
  |cons a r ih =>
   intro n
   show ((n::List.range' (n+1) r.length).filterMap fun k=>(a::r)[k-n]?)=_
   rw [Lu]
   simp only [acE,List.getElem?_cons_zero]
   congr 1
   refine Eq.trans ?_ (ih (n+1))
   refine L2.sf fun k hk=>?_
   have:=List.mem_range'.mp hk
   obtain ⟨i,hi,rfl⟩:=this
   rw [show n+1+1*i-n=i+1 by omega,show n+1+1*i-(n+1)=i by omega]
   rfl
 have:=this l 0
 rw [List.range_eq_range']
 simpa using this
theorem uR {α β:Type}(f : α->β)(n:Nat)(l:List α):L2.aL n (l.map f)=(L2.aL n l).map f:=by
 unfold L2.aL
 rw [aa,List.map_filterMap]
 refine L2.sf fun k _=>?_
 rw [i4]
theorem wQ {w:Str}{as:List Str}{xs:LI}(h:as.length=xs.length):L2.aL 1 (w::bV as xs)=as:=by
 unfold L2.aL
 rw [mf,pairs_len h,show (2*as.length+1-1+1) / 2=as.length by omega]
 conv=>rhs;rw [<- Kb as]
 refine L2.sf fun k _=>?_
 rw [show 1+2*k=2*k+1 by omega,List.getElem?_cons_succ,JF h]
theorem xo {w:Str}{as:List Str}{xs:LI}(h:as.length=xs.length):L2.aL 2 (w::bV as xs)=xs.map aO:=by
 unfold L2.aL
 rw [mf,pairs_len h,show (2*as.length+1-2+1) / 2=(xs.map aO).length by rw [aa];omega]
 conv=>rhs;rw [<- Kb (xs.map aO)]
 refine L2.sf fun k _=>?_
 rw [show 2+2*k=2*k+1+1 by omega,List.getElem?_cons_succ,Ka h]
theorem JG:∀ {as:List Str} {xs:LI} {a:Str} {x:Int},as.length=xs.length->bV (as++[a]) (xs++[x])=bV as xs++[a,aO x]
 |[],[],_,_,_=>rfl
 |[],_::_,_,_,h=>by cases h
 |_::_,[],_,_,h=>by cases h
 |a::as,x::xs,_,_,h=>by
  show a::aO x::bV (as++_) (xs++_)=_
  rw [JG (abN h)];rfl
theorem Kc:∀ {as:List Str} {xs:LI} {w:Str},w ∈ bV as xs->w ∈ as\/∃ x ∈ xs,w=aO x
 |[],_,_,h=>by cases h
 |_::_,[],_,h=>by cases h
 |a::as,x::xs,w,h=>by
  rcases gr.mp h with h | h
  ·exact .inl (by rw [h];exact .head _)
  ·rcases gr.mp h with h | h
   ·exact .inr ⟨x,.head _,h⟩
   ·exact (Kc h).imp (fun z=>.tail _ z) fun ⟨y,h1,h2⟩=>⟨y,.tail _ h1,h2⟩
def nameAt (ts:List Str)(x:Int):Str:=ts.getD x.toNat ""
theorem UD:Nm "things" := ⟨by decide +kernel,by decide +kernel,by decide +kernel⟩
theorem BU {ts:List Str}{x:Int}(h0 : 0<=x)(h1:x<ts.length):ts[x.toNat]?=some (nameAt ts x)/\nameAt ts x ∈ ts:=by
 have:ts[x.toNat]?=some (nameAt ts x):=by
  unfold nameAt
  rw [br,ar (show x.toNat<ts.length by omega)];rfl
 exact ⟨this,ma this⟩
theorem Kd {d n:Nat}:∀ {l:List Str},(∀ w ∈ l,w.length<=n)->(Str.join (one d) l).length<=(n+1)*l.length:=fun {l} h=>by
 refine EM (KI d l) ?_
 induction l with
 |nil=>exact ee _
 |cons a l ih =>
  have h1:=ih fun w hw=>h w (.tail _ hw)
  have h2:=h a (.head _)
  rw [ES,List.sum_cons,mf,Nat.mul_succ]
  omega
end Sx
namespace L2
open PySem PySem.Spec PyProof.Rows
section
variable {ι:Type}{F:aQ ι}{e a b:Expr}{ρ:En}{pos:Pos}
theorem Xo {u v:V}(ha:Ev F a ρ (.fz (.fl u)))(hb:Ev F b ρ (.fz (.fl v)))(hs:sY u v=true):Ev F (.Compare a [.NotEq] [b] pos) ρ (tb (!decide (u=v))) :=
 oj (fun _=>Ex) ha hb (fun G H x y Q s hx hy k=>by rw [aB hx,aB hy];exact ⟨hs,k⟩) (iO _)
theorem sM {u v:V}(ha:Ev F a ρ (.fz (.fl u)))(hb:Ev F b ρ (.fz (.fl v)))(hs:sY u v=true):Et F (.Compare a [.NotEq] [b] pos) ρ (!decide (u=v)) :=
 mM (fun _=>Ex) ha hb (fun G H x y Q s hx hy k=>by rw [aB hx,aB hy];exact ⟨hs,k⟩) (iO _)
theorem Vf (ja jb:Nat){xa xb:Str}{ta tb t:Tr}{pa pb pt:Pos}{kt}(nd:[ja,jb].Nodup)(ha : ρ[ja]?=some (some ta))(hb : ρ[jb]?=some (some tb))(he:cF F e ρ t)(hps:∀ τ:TE,(∀ i,PE (F.cx i) e τ)->∀ i,PS (F.cx i) (.Return (some (.Tuple [.Name xa pa,.Name xb pb,e] kt pt)) pos) (m8 (qA (aT (bD ja) (aT (bD jb) (aT τ ck)))))) :
  Rn F (.Return (some (.Tuple [.Name xa pa,.Name xb pb,e] kt pt)) pos) ρ (.rt (.tp [ta,tb,t])):=by
 obtain ⟨τ,y,z⟩:=he
 refine ⟨_,hps τ y,fun D σ G0 H0 G H r k=>?_⟩
 obtain ⟨fp,r⟩:=r
 obtain ⟨vs,fq,fr,q1,q2,q3⟩:=r.own.pick (js:=[ja,jb]) (ts:=[ta,tb]) nd (by rw [ES,ES,ha,hb];rfl)
 have hv:vs.length=2:=by have:=congrArg List.length q1;rw [aa,aa] at this;exact this.symm
 obtain ⟨va,vb,rfl⟩:∃ va vb,vs=[va,vb]:=by
  match vs,hv with
  |[va,vb],_=>exact ⟨va,vb,rfl⟩
 obtain ⟨z1,q1⟩:=MW q1
 obtain ⟨z2,q1⟩:=MW q1
 have sub:∀ a ∈ fq,a ∈ fp:=fun a ha=>q3.mem_iff.mpr (rf _ ha)
 refine ⟨va,z1,vb,z2,z σ G H fp _ r.st.s r.own r.g fun v1 G1 H1 f1 s1 o1 w1=>?_⟩
 have r1:dU F.K G0 H0 G1 H1 ρ σ fp:=⟨r.st.trans s1,r.own.mono s1.g s1.h,r.own.off s1 r.g,r.n,r.d⟩
 have q2':=q2.mono s1.g s1.h
 have Ym:∀ a ∈ f1,a ∉ fq:=fun a ha hf=>by
  obtain ⟨u,hu⟩:=r.own.there a (sub a hf)
  rw [w1.n a ha] at hu;cases hu
 refine ⟨by show 3<=sizeLine;decide,fun p hp=>?_⟩
 have pf:p ∉ fq:=fun z=>by
  obtain ⟨u,hu⟩:=r1.own.there p (sub p z)
  rw [hp] at hu;cases hu
 have Qw:p ∉ f1:=fun z=>by
  obtain ⟨u,hu⟩:=o1.there p z
  rw [hp] at hu;cases hu
 refine k (.ref p) G1 _ (p::(fq++(f1++[]))) (r1.st.trans (.lO r1.st.s hp)) ⟨p,[va,vb,v1],_,rfl,bT,(q2'.frame pf).append (us:=[t]) (ws:=[v1]) ⟨v1,[],f1,[],rfl,rfl,o1.frame Qw,rfl,rfl⟩,rfl⟩ ⟨fun a ha=>?_,fun a ha=>?_,BB.mpr ⟨?_,?_⟩⟩
 ·rw [CS] at ha
  rcases gr.mp ha with rfl | z
  ·exact r1.st.h.free hp
  ·rcases ij.mp z with z | z
   ·exact r.n a (sub a z)
   ·exact r.st.h.free (w1.n a z)
 ·rw [CS] at ha
  rcases gr.mp ha with rfl | z
  ·exact r1.st.s.free hp
  ·rcases ij.mp z with z | z
   ·exact r1.g a (sub a z)
   ·exact w1.g a z
 ·rw [CS]
  intro z
  rcases ij.mp z with z | z
  ·exact pf z
  ·exact Qw z
 ·rw [CS]
  exact ue.mpr ⟨(ue.mp (q3.nodup_iff.mp r.d)).1,w1.d,fun a ha b hb e=>Ym b hb (e ▸ ha)⟩
end
def hole (B:Heap)(C:Addr):Heap:=B.update C fun o=>{ o with data:=.freed }
theorem uU {B:Heap}{C b:Addr}(h:b ≠ C):(hole B C).get? b=B.get? b:=Ll _ _ (abc h)
theorem Ke {B:Heap}{C:Addr}:(hole B C).get? C=none:=by
 obtain ⟨objs,l⟩:=B
 show (match (objs.modify C fun o=>{ o with data:=.freed })[C]? with | some ⟨_,_,.freed,_⟩=>none | o=>o)=none
 rw [Array.getElem?_modify]
 simp only [acu]
 cases objs[C]? with
 |none=>rfl
 |some o=>rfl
theorem Vg {B:Heap}{C b:Addr}{o:Obj}(h:(hole B C).get? b=some o):b ≠ C/\B.get? b=some o:=by
 have n:b ≠ C:=fun z=>by rw [z,Ke] at h;cases h
 exact ⟨n,by rw [<- uU n];exact h⟩
theorem CB {B:Heap}{C b:Addr}(h:B.get? b=none):(hole B C).get? b=none:=by
 by_cases n:b=C
 ·rw [n];exact Ke
 ·rw [uU n];exact h
section
variable {P:Program}{w:World}{K:Frag}{mg:Str->Option Value}{base:Heap}{N:List Str}{qual:Str}{sc:Scope}{f:Addr}{cd:Value}{A:Around}{outer:List Env}{s:Shared}{H:Hp}{E:XK}
theorem Wb {pins:List (Addr×Obj)}{σ:St}{H1 H':Hp}{s1 s2:Shared}{x C:Addr}{d:Option Addr}{B:Heap}{a0:Value}(I:Inv (bj (bq P w) P w K mg base N qual sc f cd A outer s H E) pins σ H1 s1)(os:s2.os=s1.os)(bare:AllBare s2.gens)(hl:Heap.HeldW B (envOfC qual sc s.heap.objs.size f cd::outer) x (.ref C) a0 s.heap.objs.size s2.heap)(ok:cV P w H' B)(kp:∀ b o,s.heap.get? b=some o->b ∉ bg outer->s1.heap.get? b=some o->H1 b=none->B.get? b=some o)(th:∀ b o,s.heap.get? b=some o->b ∉ bg outer->∃ o',B.get? b=some o')(slot:∀ b o,s.heap.get? b=some o->b ∈ bg outer->∃ sl,s2.heap.get? b=some { o with slots:=sl })(free:∀ b o,s1.heap.get? b=some o->H1 b=none->H' b=none)(dJ:∀ b xs,H1 b=some (.tup xs)->H' b=some (.tup xs))(dF:∀ b o u,H1 b=some (.dt o u)->H' b=some (.dt o u))(dN:∀ b ps,H1 b=some (.j7 ps)->∃ more,H' b=some (.j7 (ps++more)))(du:H' x=none)(tr:gv s2.heap x d)(hE:E (.ref C) (some x) (upd H' x (dO x C d))) :
  (bj (bq P w) P w K mg base N qual sc f cd A outer s H E).xe (.ref x) s2:=by
 show wpAny (model P w) (A.deeper (envOfC qual sc s.heap.objs.size f cd)) (leaving (envOfC qual sc s.heap.objs.size f cd) (.ref x)) _ _ _
 have qF:wpAny (model P w) (A.deeper (envOfC qual sc s.heap.objs.size f cd)) (leaving (envOfC qual sc s.heap.objs.size f cd) (.ref x)) (fun _ s3=>∃ h3,s3={ s2 with heap:=h3 }/\Heap.FlyingW B outer x (.ref C) a0 h3/\s2.heap.UpToSlots h3) (fun e' e8=>bq P w outer H s E e' e8) s2:=by
  unfold leaving
  refine ba (wpAny_noteFrame_againW rfl hl.2.2.2 (wpAny_landsW hl fun h3 y1 y2=>⟨h3,rfl,⟨y1.1,y1.2.1,y1.2.2.1.2.2,y1.2.2.2⟩,y2⟩))
 have qG:wpAny (model P w) (A.deeper (envOfC qual sc s.heap.objs.size f cd)) (leaving (envOfC qual sc s.heap.objs.size f cd) (.ref x)) (fun _ s3=>gv s3.heap x d) (fun _ _=>True) s2:=by
  unfold leaving
  exact ba (wpAny_noteFrame_againW rfl hl.2.2.2 (rY tr))
 refine two qF qG ?_
 rintro _ _ ⟨h3,rfl,y1,y2⟩ v9
 refine ⟨x,C,d,H',rfl,⟨os.trans I.os,bare,⟨B,a0,y1,ok,fun b o q n hb=>?_,fun b o q hb=>th b o q hb⟩,fun b o q hb=>?_,fun b o q n=>?_,fun b xs q=>dJ b xs (I.base.dJ b xs q),fun b o u q=>dF b o u (I.base.dF b o u q),fun b ps q=>?_,du⟩,v9,hE⟩
 ·exact kp b o q hb (I.base.keep b o q n hb (by simp [bj])) (I.base.free b o q n (by simp [bj]))
 ·obtain ⟨yS,q2⟩:=slot b o q hb
  obtain ⟨_,o2,dw,hd2⟩:=I.ok.eu.mem hb
  have e2:o2=o:=by
   rw [show (bj (bq P w) P w K mg base N qual sc f cd A outer s H E).bW=s from rfl,q] at dw
   exact (AE dw).symm
  subst e2
  obtain ⟨aL,q3⟩:=y2 b _ q2 hd2
  exact ⟨aL,q3⟩
 ·obtain ⟨o',q'⟩:=I.base.there b o q (by simp [bj])
  exact free b o' q' (I.base.free b o q n (by simp [bj]))
 ·obtain ⟨m1,e1⟩:=I.base.dN b ps q
  obtain ⟨m2,e2⟩:=dN b _ e1
  exact ⟨m1++m2,by rw [e2,acA]⟩
end
section
variable {M:Model}{A:Around}{E:Value->Shared->Prop}{s:Shared}{env:Env}
theorem Tz {B:Heap}{l:List Env}{e L:Addr}{cls a0:Value}{d:Option Addr}{Q:Unit->Shared->Prop}(hl:Heap.HeldW B l e cls a0 L s.heap)(tr:gv s.heap e d)(hQ:∀ h',Heap.HeldW B l e cls a0 L h'->gv h' e d->s.heap.UpToSlots h'->Q () { s with heap:=h' }):wpAny M A (setFlight (.ref e) (some L)) Q E s:=by
 obtain ⟨hkb,yQ,hf,oe,vs,T,oT,ts,he,sX,hd,h1,tX,rB,hT,fI,h3⟩:=hl
 obtain ⟨o',vs',T',oT',Hf,v7,kD,hx,oX,ne',hT',abo,Qx⟩:=tr
 rw [he] at v7
 cases v7
 rw [hd] at kD
 cases kD
 rw [h1] at oX
 cases oX
 have Fo : 3<ts.size:=(OF.mp h3).1
 have other:∀ b,b ≠ T->(s.heap.update T (Obj.mapFields (·.setIfInBounds 3 (rawInt L)))).get? b=s.heap.get? b:=fun b hb=>Ll _ _ (abc hb)
 have KJ:∀ b o,s.heap.get? b=some o->(∀ vs,o.data ≠ .fields vs)->b ≠ T:=fun b o hb rD q=>by
  rw [q,hT] at hb;injection hb with hb;subst hb;exact rD ts fI
 have hs:=NL (Obj.mapFields (·.setIfInBounds 3 (rawInt L))) hT (acj (VT fI _))
 unfold setFlight
 refine ba (WE he hd h1 ?_)
 rw [Cn (show (Value.ref T != Value.none)=true from by simp)]
 refine acg hT fI Fo (hQ _ ⟨fun b o Hg=>(other b fun q=>by rw [q,tX] at Hg;cases Hg).trans (hkb b o Hg),yQ,hf.of_keeps fun b o hb rD=>⟨o,(other b (KJ b o hb rD)).trans hb,rfl⟩,oe,vs,T,_,_,(other e (abc rB)).trans he,sX,hd,h1,tX,rB,hs,VT fI _,by simp [Fo]⟩ ⟨oe,vs,T,_,_,(other e (abc rB)).trans he,hd,hx,h1,rB,hs,VT fI _,by simpa using Fo⟩ fun b o hb rD=>⟨o.slots,(other b (KJ b o hb rD)).trans hb⟩)
theorem Vh {B:Heap}{l:List Env}{e L:Addr}{cls a0:Value}{d:Option Addr}{YT:String}{cenv:Env}(hc:cenv.frame=some L)(hl:Heap.HeldW B l e cls a0 L s.heap)(tr:gv s.heap e d)(hQ:∀ h',Heap.HeldW B l e cls a0 L h'->gv h' e d->s.heap.UpToSlots h'->E (.ref e) { s with heap:=h' }):wpAny M A (PySem.passOn YT (.ref e) cenv:Sem Value) (fun _ _=>False) E s:=by
 obtain ⟨_,_,_,oe,vs,T,oT,ts,he,sX,hd,h1,tX,rB,hT,fI,h3⟩:=id hl
 unfold PySem.passOn
 refine ba (WE he hd h1 ?_)
 rw [AM (by simp)]
 rw [hc]
 exact ba (Tz hl tr fun h' y1 y2 y3=>wpAny_throw (hQ h' y1 y2 y3))
end
section
variable {M:Model}{A:Around}{E:Value->Shared->Prop}{s:Shared}{env:Env}
def vq (M:Model)(A:Around)(E:Value->Shared->Prop)(u:Value->Sem Unit)(Q:Value->Shared->Prop)(acc:Value)(cenv:Env)(r:Result)(s':Shared):Prop :=
 match r with
 | .ok _=>wpAny M A (u acc) (fun _ e8=>∃ m,e8.heap.Ns cenv.locals m/\∀ h',Heap.SameBut cenv.locals e8.heap h'->Q .none { e8 with heap:=h' }) E s'
 | .error x=>∃ m,s'.heap.Ns cenv.locals m/\∀ h',Heap.SameBut cenv.locals s'.heap h'->wpAny M A (PySem.passOn "comprehension.variables-let-go" x cenv:Sem Value) (fun _ _=>False) E { s' with heap:=h' }
theorem Xp {e:Expr}{scope:Scope}{pos:Pos}{MI first:Sem Value}{g:Comprehension}{gs:List Comprehension}{cl:List (Str×Addr)}{u:Value->Sem Unit}{Q:Value->Shared->Prop}(kI:clausesOf e=g::gs)(hs:∀ x,foldedSetIterable g.iter env x=pure x)(Yn:closureFor scope env=pure cl)(xN:scope.kind=.function)(Xq:∀ x ∈ scope.names,x.2=.local->scope.names.lookup x.1=some .local)(h:wpAny M A first (fun x bf=>wpAny M A (pyIter x) (fun it je=>wpAny M A MI (fun acc tj =>
   wpAny M A (newFunctionEnv scope env.globals cl [] env.qual none .none (some env)) (fun cenv Ov =>
    codeAny M A (.compStart e 0 it acc { cenv with scope:=relabel scope env }) (vq M A E u Q acc { cenv with scope:=relabel scope env }) Ov) E tj) E je) E bf) E s) :
  wpAny M A (comprehension e scope env pos MI false first (some u)) Q E s:=by
 unfold comprehension
 rw [Yn,kI]
 refine ba (aj h fun x bf YV=>ba (YO (ba (wpAny_of_eq (hs x) (ba (LB (aj YV fun it je YW=>wpAny_standIf (ba (aj YW fun acc tj YX=>ba (wb (ba (aj YX fun cenv Ov tm=>?_))))))))))))
 dsimp only
 have hv:∀ x ∈ (scope.names.filter fun x=>(x.2==.local || x.2==.cell)&&x.1 != (".0" : Str)).reverse,x.2=.local ->
   Env.kindOf { cenv with scope:=relabel scope env } x.1=some .local:=fun x hx hl=>lookup_relabel_local (Xq x (acQ.mp (List.mem_reverse.mp hx)).1 hl)
 refine LB (ba (acr (LB (wpAny_run (YE tm fun r s' hr=>?_)))))
 cases r with
 |ok f =>
  refine ba (wpAny_rule (ba (LB (aj hr fun _ e8 tZ=>?_))))
  obtain ⟨m,hn,tZ⟩:=tZ
  refine ba (wpAny_comp_letGo (cenv:={ cenv with scope:=relabel scope env }) xN _ e8 m (fun x hx hl=>?_) hn fun h' m' _ bu=>wb (tZ h' bu))
  rcases ij.mp hx with h1 | h1
  ·exact hv x (abA h1) hl
  ·exact hv x (abB h1) hl
 |error x =>
  obtain ⟨m,hn,hr⟩:=hr
  exact ba (LB (wpAny_comp_letGo (cenv:={ cenv with scope:=relabel scope env }) xN _ s' m hv hn fun h' m' _ bu=>ET (hr h' bu) (fun _ _ f=>f.elim) fun _ _ y=>y))
theorem Wc {P:Program}{w:World}{A:Around}{R:Result->Shared->Prop}{s:Shared}{elt tg iter:Expr}{ifs:List Expr}{sc:Scope}{pos:Pos}{it acc:Value}{env:Env}(I:Nat->Shared->Prop)(turn:∀ n s,I n s->wpAny (model P w) A (pyNext it) (fun r s1=>match r with
   |none=>R (.ok .next) s1
   |some v=>wpAny (model P w) A (letOwnedTupleGo tg it v) (fun _ s2=>wpAny (model P w) A (assign tg env v) (fun _ s3 =>
     wpAny (model P w) A (jL ifs env) (fun ok s4=>if ok=true then wpAny (model P w) A (eval elt env) (fun x s5 =>
       wpAny (model P w) A (call (.builtin "list.append") [acc,x]) (fun _ s6=>∃ m,m<n/\I m s6) cy s5) (notedBy (model P w) A env fun x s'=>R (.error x) s') s4
      else ∃ m,m<n/\I m s4) cy s3) cy s2) cy s1) cy s)(n:Nat)(h:I n s):codeAny (model P w) A (.compLoop (.ListComp elt [⟨tg,iter,ifs,0⟩] sc pos) 0 it acc env) R s:=by
 refine codeAny_loop rfl I (fun n s hI=>?_) n h
 show wpAny (model P w) A ((compTurn (.ListComp elt [⟨tg,iter,ifs,0⟩] sc pos) 0 it acc env).onRaise (fun x=>do noteFrame x env;theTreesLotGoes x)) _ _ s
 refine wpAny_noted ?_
 rw [compTurn_list]
 refine ba (YO (ba (aj (lV (turn n s hI)) fun r s1 h1=>?_)))
 cases r with
 |none=>exact wb h1
 |some v =>
  refine ba (aj (lV h1) fun _ s2 h2=>ba (aj (lV h2) fun _ s3 h3=>ba (aj (lV h3) fun ok s4 h4=>?_)))
  cases ok with
  |false=>exact wb ⟨rfl,h4⟩
  |true=>exact ba (ba (aj h4 fun x s5 h5=>ba (aj (lV h5) fun _ s6 h6=>wb (wb ⟨rfl,h6⟩))))
end
theorem Ma {B h2 h':Heap}{Cc:Addr}(sb:Heap.SameBut Cc h2 h'):∀ {l:List Env},Cc ∉ bg l->h2.FunFrames B l->h'.FunFrames (hole B Cc) l
 |[],_,_=>True.intro
 |env::l,n,⟨k,⟨L,o,hf,hb,hg,hn⟩,r⟩=>by
  have nL:L ≠ Cc:=fun z=>n (ID.mpr ⟨env,.head _,by rw [hf,z]⟩)
  exact ⟨k,⟨L,o,hf,CB hb,(sb.2 L nL).trans hg,hn⟩,Ma sb (fun z=>n (by
   obtain ⟨e,he,q⟩:=ID.mp z
   exact ID.mpr ⟨e,.tail _ he,q⟩)) r⟩
section
variable {P:Program}{w:World}{K:Frag}{mg:Str->Option Value}{base:Heap}{N:List Str}{qual:Str}{av:Scope}{f:Addr}{cd:Value}{A:Around}{outer:List Env}{s0:Shared}{H0:Hp}{E:XK}
theorem Wd {own:List Str}{fr:List Nat}{sc:Scope}{cl:List (Str×Addr)}{pins mU:List (Addr×Obj)}{σ aA:St}{H3 H1 H':Hp}{s3 s1 s':Shared}{fp:List Addr}{pn:List (Addr×Obj)}{x C:Addr}{d:Option Addr}(I3:Inv (bj (bq P w) P w K mg base N qual av f cd A outer s0 H0 E) pins σ H3 s3)(bb:∀ b ∈ fp,eW (bj (bq P w) P w K mg base N qual av f cd A outer s0 H0 E) pins H3 b)(I6:Inv (bE (bj (bq P w) P w K mg base N qual av f cd A outer s0 H0 E) own fr sc cl s3.heap.objs.size s3 H3 fp pn) mU aA H1 s1)(F:oz P w (envOfC qual av s0.heap.objs.size f cd::outer) H1 s1 x C H' s')(tr:gv s'.heap x d)(hE:E (.ref C) (some x) (upd H' x (dO x C d)))(cenv:Env)(Qy:cenv.frame=some s0.heap.objs.size)(kI:cenv.locals=s3.heap.objs.size)(u:Value->Sem Unit)(Q:Value->Shared->Prop)(acc:Value) :
  notedBy (model P w) (A.deeper (envOfC qual av s0.heap.objs.size f cd)) cenv (fun x e8=>vq (model P w) (A.deeper (envOfC qual av s0.heap.objs.size f cd)) (bj (bq P w) P w K mg base N qual av f cd A outer s0 H0 E).xe u Q acc cenv (.error x) e8) (.ref x) s':=by
 have IX:Inv (bj (bq P w) P w K mg base N qual av f cd A outer s0 H0 E) pins σ H1 s1:=I3.sS (s':=s1) I6.os I6.base I6.aq I6.bare fun b hb=>⟨(bb b hb).2.2.2.1,(bb b hb).2.1,(bb b hb).2.2.2.2.1,(bb b hb).2.2.2.2.2⟩
 have above:s0.heap.objs.size<=s3.heap.objs.size:=I3.sz
 have lt0:s0.heap.objs.size<s3.heap.objs.size:=I3.lt
 have ka:s3.heap.objs.size ∉ bg (envOfC qual av s0.heap.objs.size f cd::outer):=fun z=>by
  rcases gr.mp (I3.jO _ z) with q | q
  ·have q:s3.heap.objs.size=s0.heap.objs.size:=q
   exact absurd lt0 (by rw [q];exact LM _)
  ·obtain ⟨_,o2,dw,_⟩:=I3.ok.eu.mem q
   exact absurd (lp (show s0.heap.get? s3.heap.objs.size=some o2 from dw)) (Nat.not_lt.mpr above)
 have hL:∀ b o,s0.heap.get? b=some o->b ∉ bg outer->b ∉ bg (envOfC qual av s0.heap.objs.size f cd::outer):=fun b o q hb z=>by
  rcases gr.mp (I3.jO b z) with z | z
  ·have lt:=rb (lp q) I3.ok.above
   rw [z] at lt
   exact absurd lt (LM _)
  ·exact hb z
 obtain ⟨B,a0,fl,ok,kp,th⟩:=F.ex
 show wpAny (model P w) (A.deeper (envOfC qual av s0.heap.objs.size f cd)) (noteFrame (.ref x) cenv) _ _ s'
 have eB:(A.deeper (envOfC qual av s0.heap.objs.size f cd)).frames=some (envOfC qual av s0.heap.objs.size f cd::outer):=I3.ok.frames
 have rD:noteFrame (.ref x) cenv=noteFrame (.ref x) (envOfC qual av s0.heap.objs.size f cd):=by
  unfold noteFrame PySem.frameOf
  rw [Qy];rfl
 rw [rD]
 obtain ⟨m6,kH,_⟩:=id I6.loc
 have fC:H1 s3.heap.objs.size=none:=I6.free
 have kH:s1.heap.Ns s3.heap.objs.size m6:=kH
 obtain ⟨oC,es,ep,Qz,QA,rC⟩:=kH
 have bC:=kp _ oC Qz fC ka
 have QB:=F.free _ oC Qz fC
 refine two (wpAny_looks_onW (M:=model P w) (A:=A.deeper (envOfC qual av s0.heap.objs.size f cd)) (s:=s') (E:=fun x e8=>vq (model P w) (A.deeper (envOfC qual av s0.heap.objs.size f cd)) (bj (bq P w) P w K mg base N qual av f cd A outer s0 H0 E).xe u Q acc cenv (.error x) e8) (Q:=fun _ s2=>∃ h2,s2={ s' with heap:=h2 }/\Heap.HeldW B (envOfC qual av s0.heap.objs.size f cd::outer) x (.ref C) a0 s0.heap.objs.size h2/\s'.heap.UpToSlots h2) eB rfl fl fun h2 y1 y2=>⟨h2,rfl,y1,y2⟩) (Cy (E:=fun _ _=>True) eB rfl fl tr) ?_
 rintro _ _ ⟨h2,rfl,y1,y2⟩ v9
 have gC:h2.get? s3.heap.objs.size=some oC:=y1.1 _ _ bC
 refine ⟨m6,by rw [kI];exact ⟨oC,es,ep,gC,QA,rC⟩,fun h' sb=>?_⟩
 rw [kI] at sb
 have yj:∀ {b:Addr} {o:Obj} {vs:Array Value},h2.get? b=some o->o.data=.fields vs->b ≠ s3.heap.objs.size:=fun {b o vs} q1 q2 z=>by
  rw [z,gC] at q1
  cases q1
  rw [QA] at q2
  cases q2
 have held:Heap.HeldW (hole B s3.heap.objs.size) (envOfC qual av s0.heap.objs.size f cd::outer) x (.ref C) a0 s0.heap.objs.size h':=by
  obtain ⟨k1,k2,k3,oe,vs,T,oT,ts,he,sX,hd,h1,tX,rB,hT,fI,h3⟩:=y1
  refine ⟨fun b o hb=>?_,CB k2,Ma sb ka k3,oe,vs,T,oT,ts,(sb.2 _ (yj he hd)).trans he,sX,hd,h1,CB tX,rB,(sb.2 _ (yj hT fI)).trans hT,fI,h3⟩
  obtain ⟨n1,n2⟩:=Vg hb
  exact (sb.2 _ n1).trans (k1 b o n2)
 have GZ:gv h' x d:=by
  obtain ⟨o,vs,T,oT,ts,he,hd,hx,h1,ne,hT,fI,hz⟩:=v9
  exact ⟨o,vs,T,oT,ts,(sb.2 _ (yj he hd)).trans he,hd,hx,h1,ne,(sb.2 _ (yj hT fI)).trans hT,fI,hz⟩
 refine Vh (s:={ s' with heap:=h' }) Qy held GZ fun me z1 z2 z3=>?_
 have old:∀ {b:Addr} {o:Obj},s0.heap.get? b=some o->b ≠ s3.heap.objs.size:=fun {b o} q=>xp (rb (lp q) above)
 refine Wb IX F.os F.bare z1 (fun b ob eb=>?_) (fun b o q hb q1 n=>?_) (fun b o q hb=>?_) (fun b o q hb=>?_) F.free F.dJ F.dF F.dN F.du z2 hE
 ·refine (ok b ob eb).hJ (fun c v hc q=>(uU ?_).trans q) (fun _ q=>q) fun _ _ q=>q
  rintro rfl
  rcases hc with z | z
  ·rw [<- z,QB] at eb;cases eb
  ·rw [QB] at z;cases z
 ·exact (uU (old q)).trans (kp b o q1 n (hL b o q hb))
 ·obtain ⟨o',q'⟩:=IX.base.there b o q (by simp [bj])
  obtain ⟨o2,q2⟩:=th b o' q' (hL b o q hb)
  exact ⟨o2,(uU (old q)).trans q2⟩
 ·have n0:=IX.ok.gR b hb
  obtain ⟨sl,q1⟩:=IX.base.slot b o q n0 hb (by simp [bj])
  have mh:b ∈ bg (envOfC qual av s0.heap.objs.size f cd::outer):=by
   obtain ⟨env,he,hf⟩:=ID.mp hb
   exact ID.mpr ⟨env,LH _ he,hf⟩
  obtain ⟨yS,q2⟩:=F.slot b _ q1 mh
  obtain ⟨_,o2,dw,hd2⟩:=IX.ok.eu.mem hb
  have e2:o2=o:=by
   rw [show (bj (bq P w) P w K mg base N qual av f cd A outer s0 H0 E).bW=s0 from rfl,q] at dw
   exact (AE dw).symm
  subst e2
  obtain ⟨aL,q3⟩:=y2 b _ q2 hd2
  have q4:=(sb.2 b (old q)).trans q3
  obtain ⟨Hh,q5⟩:=z3 b _ q4 hd2
  exact ⟨Hh,q5⟩
end
theorem UE {P:Program}{w:World}{K:Frag}{mg:Str->Option Value}{base:Heap}{N:List Str}{qual:Str}{av:Scope}{f:Addr}{cd:Value}{A:Around}{outer:List Env}{s0:Shared}{H0:Hp}{E:XK}{X:Cx}(hX:X=bj (bq P w) P w K mg base N qual av f cd A outer s0 H0 E){elt tg iter:Expr}{ifs:List Expr}{sc:Scope}{cl:List (Str×Addr)}{own:List Str}{fr:List Nat}{pos ky py:Pos}{wi:TI}{g:TG}{tt:TT}{te:TE}{y0:Str}{j0:Nat}(L:gy X sc cl fr)(hc:X.calm=true)(hi:PI X tg iter wi)(hg:∀ C s H ex pn,PG (bE X own fr sc cl C s H ex pn) tg g)(ht:∀ C s H ex pn (pins:List (Addr×Obj)) (s1:Shared) (ak:St) (H1:Hp) (Q:Bool->Hp->Prop),Inv (bE X own fr sc cl C s H ex pn) pins ak H1 s1->tt ak H1 Q ->
   wpAny (model X.prog X.w) X.A (jL ifs (compEnvC sc (cellsFrom (C+1) sc.names cl) C X.env)) (TP (bE X own fr sc cl C s H ex pn) pins ak Q) cy s1)(he:∀ C s H ex pn XE,Passes (bq P w) ((bE X own fr sc cl C s H ex pn).d9 XE) E->PE ((bE X own fr sc cl C s H ex pn).d9 XE) elt te)(GL:X.N.Nodup)(GN:X.N[j0]?=some y0)(GO:Loc X.env.scope y0)(gV:swapsWith (.ListComp elt [⟨tg,iter,ifs,0⟩] sc pos) (some (.Name y0 py)) ky.line X.env=pure true)(GP:X.fn y0=true\/X.env.scope.names.lookup y0=some .local)(hs:∀ x,foldedSetIterable iter X.env x=pure x:=by intro _;rfl) :
  PS X (.Assign [.Name y0 py] (.ListComp elt [⟨tg,iter,ifs,0⟩] sc pos) ky) (hU (qU wi g tt te own fr) (dZ j0)):=by
 intro pins s σ H D I h
 rw [exec_Assign_Name_used _ _ _ _ gV]
 refine ba (YO (ba ?_))
 show wpAny _ X.A (do let _ <- comprehension (.ListComp elt [⟨tg,iter,ifs,0⟩] sc pos) sc X.env _ (newList []) false (eval iter X.env) (some (assign (.Name y0 py) X.env))) _ _ s
 refine ba (ET (Xp (u:=assign (.Name y0 py) X.env) (Q:=fun _ s'=>SP X pins D .next s') rfl hs L.tf L.kind L.names (aj (hi pins s σ H _ I h) fun v s1 h1=>aj h1 fun oU s2 h2=>?_)) (fun _ s' hq=>wb (wb hq)) fun _ _ e=>e)
 obtain ⟨it,fp,tn,J,H2,e,I2,T,bO,f2,h2⟩:=h2
 subst e
 refine Sk ?_
 have I3:Inv X pins σ (upd H2 s2.heap.objs.size (.lst [])) { s2 with heap:=s2.heap.push { cls:=.type "list",data:=.seq ([]:List Value).toArray } }:=I2.vB (t':=s2.toks) .nil (Cs _)
 have n2:H2 s2.heap.objs.size=none:=I2.fresh
 obtain ⟨W,⟨m0,w0⟩,turn⟩:=h2 _ n2
 have ny:∀ b ∈ fp,b<s2.heap.objs.size:=fun b hb=>by
  obtain ⟨o,eo,_⟩:=T.obj 0 _ bO b hb
  exact lp eo
 have bb:∀ b ∈ fp,eW X pins (upd H2 s2.heap.objs.size (.lst [])) b:=fun b hb=>⟨by rw [ay (xp (ny b hb))];exact (f2 b hb).1,(f2 b hb).2⟩
 generalize fW:({ s2 with heap:=s2.heap.push { cls:=.type "list",data:=.seq ([]:List Value).toArray } }:Shared)=s3 at I3
 have fE:tn 0 s3.heap:=by
  rw [<- fW]
  exact T.keep 0 _ _ bO fun b hb o eo=>gc _ eo
 have iE:∀ b ∈ fp,b<s3.heap.objs.size:=fun b hb=>by
  obtain ⟨o,eo,_⟩:=T.obj 0 _ fE b hb
  exact lp eo
 generalize oY:upd H2 s2.heap.objs.size (.lst [])=H3 at I3 bb w0
 generalize s2.heap.objs.size=acc at turn w0 oY ⊢
 refine wu ?_
 have ig:(pushCells (s3.heap.push { cls:=.type "dict",data:=.dict #[] }) sc.names).Ns s3.heap.objs.size fun _=>none:=(Heap.Ns.new s3.heap (.type "dict")).keeps (OR _ _)
 have kp:∀ b o,s3.heap.get? b=some o->(pushCells (s3.heap.push { cls:=.type "dict",data:=.dict #[] }) sc.names).get? b=some o:=fun b o eo=>OR _ _ b o (gc _ eo)
 have ju:∀ y c,(cellsFrom (s3.heap.objs.size+1) sc.names cl).lookup y=some c->cl.lookup y=some c\/(pushCells (s3.heap.push { cls:=.type "dict",data:=.dict #[] }) sc.names).IsCell c none:=fun y c e =>
  sr sc.names (s3.heap.push { cls:=.type "dict",data:=.dict #[] }) cl y c (by rw [OP];exact e)
 generalize Gk:pushCells (s3.heap.push { cls:=.type "dict",data:=.dict #[] }) sc.names=h4 at ig kp ju
 have I4:=lcInv (own:=own) (tk:=s3.toks) L I3 bb iE ig kp ju
 have kG:tn 0 h4:=T.keep 0 _ _ fE fun b hb o eo=>kp b o eo
 have stat:∀ {H':Hp},(∀ b ∈ fp,H' b=none)->∀ b ∈ fp,eW (bE X own fr sc cl s3.heap.objs.size s3 H3 fp (X.pn++pins)) [] H' b:=fun {H'} hn b hb =>
  ⟨hn b hb,xp (iE b hb),fun z=>(gr.mp (I3.jO b z)).elim (bb b hb).2.1 (bb b hb).2.2.1,.inl hb,fun y c e=>(pL _ _ _ y c e).elim (fun q=>(bb b hb).2.2.2.2.1 y c (L.sub y c q)) fun q=>Nl (rb (iE b hb) (OK q.1)),fun p hp=>(bb b hb).2.2.2.2.2 p (by
   have z:p ∈ (X.pn++pins)++[]:=hp
   simpa using z)⟩
 have loop:codeAny (model X.prog X.w) X.A (.compLoop (.ListComp elt [⟨tg,iter,ifs,0⟩] sc pos) 0 (.ref it) (.ref acc) (compEnvC sc (cellsFrom (s3.heap.objs.size+1) sc.names cl) s3.heap.objs.size X.env))
   (vq (model X.prog X.w) X.A X.xe (assign (.Name y0 py) X.env) (fun _ s'=>SP X pins D .next s') (.ref acc) (compEnvC sc (cellsFrom (s3.heap.objs.size+1) sc.names cl) s3.heap.objs.size X.env)) { s3 with heap:=h4,toks:=s3.toks }:=by
  refine Wc (fun n s'=>∃ i ys ak H1,Inv (bE X own fr sc cl s3.heap.objs.size s3 H3 fp (X.pn++pins)) [] ak H1 s'/\tn i s'.heap/\(∀ b ∈ fp,H1 b=none)/\W i n ys ak H1) ?_ m0 ⟨0,[],_,H3,I4,kG,fun b hb=>(bb b hb).1,w0⟩
  rintro n s5 ⟨i,ys,fX,H5,I5,cL,jo,w5⟩
  obtain ⟨gO,hlen,hh⟩:=turn i n ys fX H5 w5
  rcases hh with ⟨stop,qn⟩ | ⟨go,N,hN,step⟩
  ·refine aj (T.done (bE X own fr sc cl s3.heap.objs.size s3 H3 fp (X.pn++pins)) rfl rfl rfl hc i [] s5 fX H5 cy I5 (stat jo) cL stop) fun r s6 ⟨hr,I6⟩=>?_
   subst hr
   obtain ⟨m6,kH,_⟩:=id I6.loc
   have back:∀ h7,Heap.SameBut s3.heap.objs.size s6.heap h7->Inv X pins σ H5 { s6 with heap:=h7 }:=fun h7 fY=>by
    have old:∀ b o,s3.heap.get? b=some o->b ≠ s3.heap.objs.size:=fun b o eo=>xp (lp eo)
    have u6:Un (bg X.stack) fp H3 H5 s3.heap s6.heap:=I6.base
    have u7:Un (bg X.stack) fp H3 H5 s3.heap h7 :=
     ⟨fun b o eo nn hb hx=>(fY.2 b (old b o eo)).trans (u6.keep b o eo nn hb hx),fun b o eo nn hb hx=>by
      obtain ⟨sl,q⟩:=u6.slot b o eo nn hb hx
      exact ⟨sl,(fY.2 b (old b o eo)).trans q⟩,u6.free,fun b o eo hx=>by
      obtain ⟨o',q⟩:=u6.there b o eo hx
      exact ⟨o',(fY.2 b (old b o eo)).trans q⟩,u6.dJ,u6.dF,u6.dN⟩
    have fC:H5 s3.heap.objs.size=none:=I6.free
    have qC:cV X.prog X.w H5 h7:=fun b ob eb=>by
     refine (I6.aq b ob eb).hJ (fun c w' fT q=>(fY.2 c ?_).trans q) (fun _ q=>q) fun _ _ q=>q
     rintro rfl
     rcases fT with z | z
     ·rw [<- z,fC] at eb;cases eb
     ·rw [fC] at z;cases z
    exact I3.sS (s':={ s6 with heap:=h7 }) I6.os u7 qC I6.bare fun b hb=>⟨(bb b hb).2.2.2.1,(bb b hb).2.1,(bb b hb).2.2.2.2.1,(bb b hb).2.2.2.2.2⟩
   have GQ:H5 s3.heap.objs.size=none:=I6.free
   show wpAny _ _ (assign (.Name y0 py) X.env (.ref acc)) _ X.xe s6
   refine acG (Cm (v:=.ref acc) (back s6.heap (Heap.SameBut.refl ..)) GL GN GO rfl (fun s7 I7 ⟨a,sb,ha⟩=>?_) GP)
   have aC:s3.heap.objs.size ≠ a:=by
    rcases ha with rfl | ha
    ·exact Nl I3.lt
    ·obtain ⟨v0,q0⟩:=I3.cell y0 a ha
     exact Nl q0.lt
   refine ⟨m6,kH.sameBut sb aC,fun h8 GR=>⟨_,H5,?_,qn⟩⟩
   exact Inv.xh (t':=s7.toks) (fs:=[s3.heap.objs.size]) I7 (fun b o hb e=>(GR.2 b (fun z=>hb (by rw [z];exact .head _))).trans e) (fun b hb=>by
    rw [mT.mp hb]
    exact I3.oE (H':=H5) (ee _) GQ)
  ·refine aj (T.item (bE X own fr sc cl s3.heap.objs.size s3 H3 fp (X.pn++pins)) rfl rfl rfl hc i [] s5 fX H5 cy I5 (stat jo) cL go) fun r s6 ⟨u,hr,h6⟩=>?_
   subst hr
   refine aj h6 fun _ s7 ⟨x,H7,I7,r7,y7,iF,qV⟩=>?_
   have qW:=I7.pinned (stat qV) (T.obj _ _ iF)
   refine aj (hg _ _ _ _ _ _ s7 fX H7 x u _ qW r7 (step x H7 y7)) fun _ s8 ⟨fZ,H8,I8,q8⟩=>?_
   have again:∀ {zs:List V} {bG:St} {H9:Hp} {s9:Shared},Inv (bE X own fr sc cl s3.heap.objs.size s3 H3 fp (X.pn++pins)) ([]++oh fp s7.heap) bG H9 s9->N zs bG H9 ->
     ∃ m,m<n/\∃ i ys ak H1,Inv (bE X own fr sc cl s3.heap.objs.size s3 H3 fp (X.pn++pins)) [] ak H1 s9/\tn i s9.heap/\(∀ b ∈ fp,H1 b=none)/\W i m ys ak H1:=fun {zs bG H9 s9} I9 n9=>by
    obtain ⟨m',hm,w9⟩:=hN zs bG H9 n9
    refine ⟨m',hm,i+1,zs,bG,H9,I9.pO,T.keep _ _ _ iF fun b hb o e=>(I9.pin (b,o) (ff _ (ff _ (lh hb e)))).1,fun b hb=>?_,w9⟩
    obtain ⟨o,e,d⟩:=T.obj _ _ iF b hb
    exact (I9.pin (b,o) (ff _ (ff _ (lh hb e)))).2.1
   refine aj (ht _ _ _ _ _ _ s8 fZ H8 _ I8 q8) fun ok s9 ⟨H9,I9,q9⟩=>?_
   cases ok with
   |false=>exact again I9 (by simpa using q9)
   |true =>
    refine aj (he _ _ _ _ _ (notedBy (model X.prog X.w) X.A (compEnvC sc (cellsFrom (s3.heap.objs.size+1) sc.names cl) s3.heap.objs.size X.env) fun x s'=>vq (model X.prog X.w) X.A X.xe (assign (.Name y0 py) X.env) (fun _ s'=>SP X pins D .next s') (.ref acc) (compEnvC sc (cellsFrom (s3.heap.objs.size+1) sc.names cl) s3.heap.objs.size X.env) (.error x) s') ?_ _ s9 fZ H9 _ (I9.d9 _) q9) fun z iG ⟨y,qX,ef,nz,j9,qY⟩=>?_
    ·rintro mU aA H1 s1 ev s' I ⟨x,C,d,H',rfl,F,tr,hE⟩
     subst hX
     exact Wd I3 bb I.gj F tr hE _ rfl rfl _ _ _
    have ef:=ef.gj
    refine aj (kf _ iG fZ qX (.ref acc) [y] (.ref acc) [z] (fun _ H'=>N (ys++[y]) fZ H') ef rfl (.cons nz .nil) ⟨acc,ys,y,rfl,rfl,j9,hlen,qY⟩) fun _ Gm ⟨_,Gp,qZ,_,ra⟩=>again qZ ra
 rw [<- fW] at loop ⊢
 exact abp loop (lV (T.self _ 0 _ _ _ kG (by rw [fW];rw [fW] at loop;exact loop)))
theorem KL {K:Frag}{G:Hp}:∀ {js:List Nat} {ρ:En} {σ:St},bH K G ρ σ->bH K G (ix js ρ) σ
 |[],_,_,z=>z
 |j::js,ρ,σ,z=>KL (js:=js) (ρ:=ρ.set j none) fun i d hd=>by
  by_cases q:j=i
  ·subst q
   rw [aca] at hd
   simp at hd
  ·rw [B0 q] at hd
   exact z i d hd
section
variable {P:Program}{w:World}{K:Frag}{mg:Str->Option Value}{base:Heap}{N:List Str}{qual:Str}{av:Scope}{f:Addr}{k:Nat}{ρ:En}{bh:List Stmt}{Ξ:Hp->Hp->XK->Prop}
theorem Xr {g yn:Str}{j:Nat}{f':Addr}{nI:FuncData}{nJ:List Str}{R:List Dv->(Hp->Hp->XK->Prop)->Prop}{e tg iter:Expr}{es:List Expr}{p1 p2 p3 pos ky:Pos}{own:List Str}{fr:List Nat}{sc:Scope}{cl:nH k qual av f->List (Str×Addr)}{its:List Dv}{js:List Nat}{sp:Dv->Option (List Dv)}(Fn:Kn P w K mg base (bq P w) j g f' nI nJ (dP K R))(hj:j<=k)(hi:aX (eL P w K mg base N qual av f k) tg iter (pk ρ) its)(hg:iH (cg (eL P w K mg base N qual av f k) own fr sc cl) tg js sp)(jw:∀ j ∈ js,j<own.length)(hz:its.length<sizeLine)(m:Nat)(step:∀ n d,n<m->its[n]?=some d->∃ dd t,sp d=some dd/\Ev (cg (eL P w K mg base N qual av f k) own fr sc cl) (.Call (.Name g p2) (e::es) [] p3) (aY js (dd.map .fz) (cp own fr (pk ρ))) t)(last:∃ d dd ts,its[m]?=some d/\sp d=some dd/\fF (cg (eL P w K mg base N qual av f k) own fr sc cl) (e::es) (aY js (dd.map .fz) (cp own fr (pk ρ))) ts/\R (dz ts) Ξ)(la:Later Ξ)(iR:∀ dd:List Dv,ix js (aY js (dd.map .fz) (cp own fr (pk ρ)))=cp own fr (pk ρ))(jn:Nat)(hN:N.Nodup)(L:∀ i,gy (bF P w K mg base N qual av f k i) sc (cl i) fr)(G9:N[jn]?=some yn:=by rfl)(hl:∀ i,Loc (bF P w K mg base N qual av f k i).env.scope yn:=by intro _;first | exact Or.inl rfl | exact Or.inr rfl)(hgl:∀ i,Gl ((cg (eL P w K mg base N qual av f k) own fr sc cl).cx i) g:=by intro _;rfl)(kP:(g==("__debug__" : Str))=false:=by decide)(he:∀ i,starEach (e::es) ((cg (eL P w K mg base N qual av f k) own fr sc cl).cx i).env=(false,eval e ((cg (eL P w K mg base N qual av f k) own fr sc cl).cx i).env)::starEach es ((cg (eL P w K mg base N qual av f k) own fr sc cl).cx i).env:=by intro _;rfl)(cv:∀ i,(backTo p3 (starEach es ((cg (eL P w K mg base N qual av f k) own fr sc cl).cx i).env)).any (·.1)=false:=by intro _;rfl)(gV:∀ i,swapsWith (.ListComp (.Call (.Name g p2) (e::es) [] p3) [⟨tg,iter,[],0⟩] sc pos) (some (.Name yn p1)) ky.line (bF P w K mg base N qual av f k i).env=pure true:=by intro _;rfl)(hf:∀ i,(bF P w K mg base N qual av f k i).fn yn=true\/(bF P w K mg base N qual av f k i).env.scope.names.lookup yn=some .local:=by intro _;first | exact .inl rfl | exact .inr rfl)(hs:∀ i x,foldedSetIterable iter (bF P w K mg base N qual av f k i).env x=pure x:=by intro _ _;rfl) :
  jA P w K mg base N qual av f k (.Assign [.Name yn p1] (.ListComp (.Call (.Name g p2) (e::es) [] p3) [⟨tg,iter,[],0⟩] sc pos) ky::bh) ρ Ξ:=by
 obtain ⟨wi,pi,qi⟩:=hi
 obtain ⟨gg,pg,qg⟩:=hg
 obtain ⟨dm,wa,tsm,tY,G7,hea,hR⟩:=last
 obtain ⟨ta,ya,za⟩:=hea.use
 have wc:m<its.length:=(gz.mp tY).1
 refine ⟨fun i=>cq (hU (qU wi gg (uL (cg (eL P w K mg base N qual av f k) own fr sc cl) []) (fun σ H Q=>uE (cg (eL P w K mg base N qual av f k) own fr sc cl) (.Call (.Name g p2) (e::es) [] p3) σ H Q\/ve (dP K R) [] (fun _=>i.E) ta σ H Q) own fr) (dZ jn)) iy,
  fun i=>bM (UE (X:=bF P w K mg base N qual av f k i) rfl (cl:=cl i) (L i) rfl (PI.up (pi i)) (fun C s H ex pn=>pg (i,⟨C,s,H,ex,pn⟩)) (fun C s H ex pn pins s1 ak H1 Q I h=>by
    obtain ⟨tt,h1,h2⟩:=h
    exact h1 (i,⟨C,s,H,ex,pn⟩) pins s1 ak H1 Q I h2) (fun C s H ex pn XE px pins s1 ak H1 Q I h=>?_) hN G9 (hl i) (gV i) (hf i) (hs i)) iZ,fun i D σ G0 H0 G H r kx=>?_⟩
 ·rcases h with h | h
  ·obtain ⟨τ,h1,h2⟩:=h
   exact ET (h1 (i,⟨C,s,H,ex,pn⟩) pins s1 ak H1 Q I.gj h2) (fun _ _ ⟨v,H',I',r,q⟩=>⟨v,H',I'.d9 _,r,q⟩) fun _ _ z=>False.elim z
  ·refine C8 (X:=(bE (bF P w K mg base N qual av f k i) own fr sc (cl i) C s H ex pn).d9 XE) Fn.ok (i.hr.mono hj) (hgl (i,⟨C,s,H,ex,pn⟩)) Fn.tP Fn.kp Fn.bd .nil (Passes.s px) (fun p pi2 bO bB Hp2 Q2 I2 hw=>?_) kP (he (i,⟨C,s,H,ex,pn⟩)) (cv (i,⟨C,s,H,ex,pn⟩)) pins s1 ak H1 Q I h
   exact ET (ya (i,⟨C,s,H,ex,pn⟩) p pi2 bO bB Hp2 Q2 I2.gj hw) (fun _ _ ⟨v,H',I',r,q⟩=>⟨v,H',I'.d9 _,r,q⟩) fun _ _ z=>False.elim z
 ·obtain ⟨fp,r⟩:=r
  have s0:Step G0 H0 (eK G H fp) H:=r.st.dt ⟨r.n,r.g,r.d⟩
  have rp:=r.own.pk (jK r.g) fun a ha=>jM ha
  refine qi σ (eK G H fp) H _ (mF r.st.s) rp fun J G1 H1 s1 it acc gO=>?_
  refine ⟨fun n m' ys ak H2=>m'=its.length-n/\n<=m/\ak.length=own.length+fr.length/\H2 acc=some (.lst ys)/\ys.length=n/\∃ G2,Step G1 H1 G2 H2/\G2 acc=none/\bH K G2 (cp own fr (pk ρ)) ak,
   ⟨_,rfl,Cs _,by simp [su],bT,rfl,G1,.lO s1.s gO,s1.s.free gO,(Mx rp).mono s1.g⟩,?_⟩
  rintro n m' ys ak H2 ⟨rfl,hn,tV,jx,hy,G2,s2,ga2,r2⟩
  refine ⟨jx,by omega,?_⟩
  obtain ⟨i1,i2⟩:=it n G2 H2 s2.g s2.s
  have hd:its[n]?=some its[n]:=ar (by omega)
  obtain ⟨j1,j2⟩:=i1 _ hd
  refine .inr ⟨j1,fun zs bB H3=>n<m/\bB.length=own.length+fr.length/\H3 acc=some (.lst zs)/\zs.length=n+1/\∃ G3,Step G1 H1 G3 H3/\G3 acc=none/\bH K G3 (cp own fr (pk ρ)) bB,fun zs bB H3 ⟨z0,z⟩=>⟨its.length-(n+1),by omega,rfl,by omega,z⟩,fun x H3 y=>?_⟩
  obtain ⟨G3,s3,h3⟩:=j2 x H3 y
  have tW:∀ j ∈ js,j<ak.length:=fun j hj=>by have:=jw j hj;omega
  have xR:∀ {Gb Hb:Hp},Step G2 H2 Gb Hb->Gb acc=none:=fun {Gb Hb} st=>by
   cases q:Gb acc with
   |none=>rfl
   |some u =>
    have:=st.n acc ga2 (by rw [q];exact fun z=>nomatch z)
    rw [jx] at this;cases this
  by_cases dR:n<m
  ·obtain ⟨dd,t,e1,ev⟩:=step n _ dR hd
   refine qg _ dd x ak G3 H3 _ e1 s3.s h3 fun vs iI=>?_
   have rr:bH K G3 (aY js (dd.map .fz) (cp own fr (pk ρ))) (aY js vs ak):=bH.aY tW iI (r2.mono s3.g)
   obtain ⟨tt,pt,qt⟩:=(sL:El (cg (eL P w K mg base N qual av f k) own fr sc cl) [] (aY js (dd.map .fz) (cp own fr (pk ρ))) true)
   refine ⟨tt,pt,qt _ G3 H3 _ s3.s rr fun G5 H5 s5=>?_⟩
   obtain ⟨te,pe,qe⟩:=ev.use
   refine jX (.inl ⟨te,pe,qe _ G5 H5 _ s5.s (rr.mono s5.g) fun v G6 H6 s6 hv=>?_⟩)
   have jy:=(s3.trans s5).trans s6
   have GD:=jy.h _ _ jx
   have g6:=xR jy
   refine ⟨GD,dR,by rw [wC];exact tV,bT,by rw [ir,hy];rfl,G6,⟨(s2.trans jy).g,fun b u hb=>?_,fun b u hb=>?_,(s2.trans jy).n⟩,g6,?_⟩
   ·rw [ay fun z=>by subst z;rw [gO] at hb;cases hb]
    exact (s2.trans jy).h b u hb
   ·rw [ay fun z=>by subst z;rw [g6] at hb;cases hb]
    exact s6.s b u hb
   ·have:=KL (js:=js) ((rr.mono s5.g).mono s6.g)
    rwa [iR dd] at this
  ·have en:n=m:=by omega
   subst en
   rw [hd] at tY
   cases tY
   refine qg _ wa x ak G3 H3 _ G7 s3.s h3 fun vs iI=>?_
   have rr:bH K G3 (aY js (wa.map .fz) (cp own fr (pk ρ))) (aY js vs ak):=bH.aY tW iI (r2.mono s3.g)
   obtain ⟨tt,pt,qt⟩:=(sL:El (cg (eL P w K mg base N qual av f k) own fr sc cl) [] (aY js (wa.map .fz) (cp own fr (pk ρ))) true)
   refine ⟨tt,pt,qt _ G3 H3 _ s3.s rr fun G5 H5 s5=>?_⟩
   refine jX (.inr (za _ G5 H5 _ s5.s (rr.mono s5.g) fun us G6 H6 s6 hx=>?_))
   exact ⟨G6,dz tsm,Ξ,s6.s,by rw [CS];exact hx,hR,la _ _ _ _ _ (((((s0.trans s1).trans s2).trans s3).trans s5).trans s6) kx⟩
end
open Builtin Builtin.Str
section
variable {X:Cx}
theorem TB (x y z:PySem.Str)(t u v c:Tok)(hf:((occurrences x y 0 x.length 1).isEmpty || (y.length==0&&z.length==0))=false/\(u==0 || v==0)=false/\(u==v)=false/\(y==z)=false/\tooLong (x.length+(occurrences x y 0 x.length 1).length*z.length)=false) :
  Gives («str.replace» ⟨[.str x t,.str y u,.str z v,.int 1 c],[]⟩) (.str (glued z (partsBetween x (occurrences x y 0 x.length 1) y.length))):=by
 show Gives (countLimit "str.replace" (some (.int 1 c)) (x.length+1) >>= fun limit =>
  if ((occurrences x y 0 x.length limit).isEmpty || (y.length==0&&z.length==0))=true then (rule "str.replace.nothing" >>= fun _=>ret (.str x t)) else
   isSame (.str y u) (.str z v) >>= fun same =>
    if same=true then (rule "str.replace.old-is-new" >>= fun _=>ret (.str x t)) else
    if tooLong (x.length+(occurrences x y 0 x.length limit).length*z.length)=true then unsupported "str.replace:memory" else
    retStr (glued z (partsBetween x (occurrences x y 0 x.length limit) y.length))) _
 rw [countLimit_int "str.replace" 1 c (x.length+1) (by decide)]
 show Gives (if ((occurrences x y 0 x.length 1).isEmpty || (y.length==0&&z.length==0))=true then (rule "str.replace.nothing" >>= fun _=>ret (.str x t)) else
   isSame (.str y u) (.str z v) >>= fun same =>
    if same=true then (rule "str.replace.old-is-new" >>= fun _=>ret (.str x t)) else
    if tooLong (x.length+(occurrences x y 0 x.length 1).length*z.length)=true then unsupported "str.replace:memory" else
    retStr (glued z (partsBetween x (occurrences x y 0 x.length 1) y.length))) _
 obtain ⟨hc,h0,huv,hyz,hl⟩:=hf
 rw [hc,isSame_str_other y z u v h0 huv hyz,hl]
 exact .of_eq rfl
theorem Vi {x a r:PySem.Str}{c:Nat}(hx:x=a++⟨#[c]⟩++r)(hc:c ∉ a.cps.toList)(z:PySem.Str):occurrences x ⟨#[c]⟩ 0 x.length 1=[a.length]/\glued z (partsBetween x [a.length] 1)=a++z++r:=by
 have ex:x.cps.toList=a.cps.toList++c::r.cps.toList:=by
  rw [hx,Tx.dI,Tx.dI,GS];rfl
 have QC:x.cps.toList[a.length]?=some c:=by
  rw [ex,BS (by rw [AN];exact ee _)]
  show (c::r.cps.toList)[a.length-a.cps.toList.length]?=_
  rw [show a.length-a.cps.toList.length=0 by rw [AN];exact acE _];rfl
 constructor
 ·have len:=StrLaws.occ_length_le x ⟨#[c]⟩ 0 x.length 1
  rcases StrLaws.occ_head x ⟨#[c]⟩ 1 (ee _) with ⟨_,h⟩ | ⟨i,rr,e,h1,h2⟩
  ·exact absurd ((acb x c a.length).mpr QC) (h _)
  ·rw [e] at len ⊢
   have:rr=[]:=by
    cases rr with
    |nil=>rfl
    |cons _ _=>simp at len
   subst this
   have h1:=(acb x c i).mp h1
   congr 1
   rcases Nat.lt_trichotomy i a.length with q | q | q
   ·exfalso
    rw [ex,IF (by rw [AN];exact q)] at h1
    exact hc (ma h1)
   ·exact q
   ·exact absurd ((acb x c a.length).mpr QC) (h2 _ q)
 ·have e1:strSub x 0 a.length=a:=Tx.ext (by
   show (x.cps.extract 0 a.length).toList=_
   rw [Array.toList_extract,List.extract_eq_drop_take,ex]
   have:a.length=a.cps.toList.length:=(AN).symm
   rw [this];simp)
  have e2:strSub x (a.length+1) x.length=r:=Tx.ext (by
   show (x.cps.extract (a.length+1) x.length).toList=_
   rw [Array.toList_extract,List.extract_eq_drop_take,ex]
   have l1:a.length=a.cps.toList.length:=(AN).symm
   have l2:x.length=x.cps.toList.length:=(AN).symm
   rw [l2,ex,l1]
   rw [show a.cps.toList.length+1=a.cps.toList.length+1 from rfl,<- List.drop_drop,List.drop_left]
   show List.take _ r.cps.toList=_
   rw [Lm]
   simp<;>omega)
  show (⟨[strSub x (a.length+1) x.length].foldl (fun acc p=>acc++z.cps++p.cps) (strSub x 0 a.length).cps⟩:PySem.Str)=_
  rw [e1,e2];rfl
variable {a:Expr}{ta:TE}
def Ox (ta:TE):TE:=fun σ H Q=>ta σ H fun x H1=>∃ z b r:PySem.Str,x=.str z/\z++⟨#[32]⟩=b++⟨#[32]⟩++r/\32 ∉ b.cps.toList/\z.length<=100000/\Q (.str (b++⟨#[32,32]⟩++r)) H1
theorem Xs {k1 k2 k3 k4:Nat}{p1 p2 p3 p4 p5 apos cY:Pos}(ha:PE X a ta)(d8:attributeBase (.BinOp a .Add (.Constant (.str (Str.ofString " ")) k1 p1) p2) "replace" X.env (eval (.BinOp a .Add (.Constant (.str (Str.ofString " ")) k1 p1) p2) X.env)=eval (.BinOp a .Add (.Constant (.str (Str.ofString " ")) k1 p1) p2) X.env:=by rfl)(hline:(apos.endLine==cY.line)=true:=by rfl) :
  PE X (.Call (.Attribute (.BinOp a .Add (.Constant (.str (Str.ofString " ")) k1 p1) p2) "replace" apos) [.Constant (.str (Str.ofString " ")) k2 p3,.Constant (.str (Str.ofString "  ")) k3 p4,.Constant (.int 1) k4 p5] [] cY) (Ox ta):=by
 intro pins s σ H Q I h
 have c1:(Str.ofString " ")=(⟨#[32]⟩:PySem.Str):=by decide +kernel
 have c2:(Str.ofString "  ")=(⟨#[32,32]⟩:PySem.Str):=by decide +kernel
 rw [c1,c2] at *
 refine wpAny_Call_method_late d8 rfl hline rfl (wpAny_BinOp (aj (ha pins s σ H _ I h) fun v s1 ⟨x,H1,I1,r1,q1⟩=>abQ ?_))
 obtain ⟨z,b,r,rfl,e,hb,hz,q⟩:=q1
 obtain ⟨t,rfl⟩:=r1
 have tail:∀ (tw:Tok) (tk:Nat),0<tk->MethodOn X.prog X.w X.A (Str.ofString "replace") cY (.str (z++⟨#[32]⟩) tw) (backTo cY (starEach [.Constant (.str ⟨#[32]⟩) k2 p3,.Constant (.str ⟨#[32,32]⟩) k3 p4,.Constant (.int 1) k4 p5] X.env)) (EP X pins σ Q) X.xe { s1 with toks:=tk }:=fun tw tk hk=>by
  obtain ⟨h1,h2⟩:=D5 (T := "str") (I1.tok tk) (show RelV (.str (z++⟨#[32]⟩)) (.str (z++⟨#[32]⟩) tw) from ⟨tw,rfl⟩) rfl
  refine ⟨"str", "str.replace",PySem.F.plainAttrs_str,PySem.F.slot_str_replace,PySem.F.type_str_replace,h1,h2,?_⟩
  refine ab3 rfl (abz ?_)
  refine abV (abQ (k:=k2) (pos:=p3) ?_)
  show wpAny _ _ (spliced ((false,PySem.eval (.Constant (.str ⟨#[32,32]⟩) k3 p4) X.env)::(false,PySem.eval (.Constant (.int 1) k4 p5) X.env)::[])) _ _ _
  refine abV (abQ ?_)
  refine abV (wpAny_Constant_int ?_)
  refine Calls.spliced_nil ?_
  have hm:=Vi (x:=z++⟨#[32]⟩) (a:=b) (r:=r) (c:=32) e hb ⟨#[32,32]⟩
  have hlen:(z++(⟨#[32]⟩:PySem.Str)).length<=100001:=by
   have:(z++(⟨#[32]⟩:PySem.Str)).length=z.length+1:=by
    show (z.cps++#[32]).size=_
    rw [So];rfl
   omega
  have big : 200000<sizeLine:=by decide
  refine call_gives F.slot_str_replace (acs _ _ _) F.entry_str_replace (F.args_str_replace_4 _ _ _ _) (TB (z++⟨#[32]⟩) ⟨#[32]⟩ ⟨#[32,32]⟩ tw tk (tk+1) _ ⟨by rw [hm.1];rfl,?_,?_,by decide,?_⟩) ?_
  ·rw [acp,Mc,Mc]
   exact ⟨Nl hk,Nat.succ_ne_zero tk⟩
  ·rw [Mc]
   exact xp (Nat.lt_succ_self tk)
  ·rw [hm.1]
   unfold tooLong
   refine uu ?_
   show ¬ (z++(⟨#[32]⟩:PySem.Str)).length+1*2 > sizeLine
   omega
  ·have q':Q (.str (glued ⟨#[32,32]⟩ (partsBetween (z++⟨#[32]⟩) [b.length] (⟨#[32]⟩:PySem.Str).length))) H1:=by
    show Q (.str (glued _ (partsBetween _ [b.length] 1))) H1
    rw [hm.2];exact q
   rw [hm.1]
   show (glued _ (partsBetween _ [b.length] 1)).length<=_/\_
   rw [hm.2]
   have l1:(b++(⟨#[32]⟩:PySem.Str)++r).length=b.length+1+r.length:=by
    show (b.cps++#[32]++r.cps).size=_
    rw [So,So];rfl
   have l2:(b++(⟨#[32,32]⟩:PySem.Str)++r).length=b.length+2+r.length:=by
    show (b.cps++#[32,32]++r.cps).size=_
    rw [So,So];rfl
   rw [e,l1] at hlen
   exact ⟨by rw [l2];omega,⟨.str _,H1,I1.tok _,⟨_,rfl⟩,q'⟩⟩
 refine P.add_str ?_
 split
 ·rename_i Hi
  have Hi:z=⟨#[]⟩:=Tx.ext (by
   have:z.cps.toList.length=0:=by rw [AN];exact GG.mp Hi
   exact ab0.mp this)
  have:=tail s1.toks (s1.toks+1) (by omega)
  rw [show z++(⟨#[32]⟩:PySem.Str)=⟨#[32]⟩ by rw [Hi];decide +kernel] at this
  exact this
 ·rw [AM (by decide)]
  refine ⟨?_,tail _ _ (by omega)⟩
  have big : 200000<sizeLine:=by decide
  show (z.cps++#[32]).size<=_
  rw [So]
  show z.length+1<=_
  omega
end
section
variable {ι:Type}{F:aQ ι}{e a:Expr}{ρ:En}{pos:Pos}
theorem We {z:PySem.Str}{n:Nat}{p2:Pos}(ha:Ev F a ρ (tx z))(hb:Ev F e ρ (ti n))(hn:n<=z.length)(hz:z.length<=sizeLine):Ev F (.Subscript a (.Slice (some e) none none p2) pos) ρ (tx ⟨(z.cps.toList.drop n).toArray⟩):=by
 have es:StrLaws.sliceText z (some (n:Int)) none=⟨(z.cps.toList.drop n).toArray⟩:=by
  have l:z.cps.toList.length=z.length:=AN
  rw [StrLaws.sliceText_from ⟨by omega,by rw [l];omega⟩,NJ,Lm]
  rw [EO];omega
 obtain ⟨τ,p,q⟩:=ha.use
 obtain ⟨Gx,p1,q1⟩:=eS hb
 obtain ⟨nF,tT,q2⟩:=(gi:Eo F none ρ none)
 refine ⟨Ge Oc τ Gx nF,fun i=>Kk W4 (p i) (p1 i) (tT i),fun σ G H Q s rr k=>?_⟩
 refine q σ G H _ s rr fun x G1 H1 s1 hx=>q1 σ G1 H1 _ s1.s (rr.mono s1.g) fun G2 H2 s2=>q2 σ G2 H2 _ s2.s (rr.mono (s1.trans s2).g) fun G3 H3 s3=>?_
 rw [aB hx]
 have st:=s2.trans s3
 refine ⟨z,rfl,?_,?_⟩
 ·rw [es]
  show (z.cps.toList.drop n).toArray.size<=_
  rw [i8,EO,AN]
  exact EM (Nat.sub_le _ _) hz
 ·rw [es]
  exact (k.step (s1.trans st)).sc st.s rfl
end
section
variable {ι:Type}{F:aQ ι}{e a:Expr}{ρ:En}{pos:Pos}
theorem Wf {z b r:PySem.Str}{k1 k2 k3 k4:Nat}{p1 p2 p3 p4 p5 apos cY:Pos}(ha:Ev F a ρ (tx z))(hx:z++⟨#[32]⟩=b++⟨#[32]⟩++r)(hb : 32 ∉ b.cps.toList)(hz:z.length<=100000)(d8:∀ i,attributeBase (.BinOp a .Add (.Constant (.str (Str.ofString " ")) k1 p1) p2) "replace" (F.cx i).env (PySem.eval (.BinOp a .Add (.Constant (.str (Str.ofString " ")) k1 p1) p2) (F.cx i).env)=PySem.eval (.BinOp a .Add (.Constant (.str (Str.ofString " ")) k1 p1) p2) (F.cx i).env:=by intro _;rfl)(hline:(apos.endLine==cY.line)=true:=by rfl) :
  Ev F (.Call (.Attribute (.BinOp a .Add (.Constant (.str (Str.ofString " ")) k1 p1) p2) "replace" apos) [.Constant (.str (Str.ofString " ")) k2 p3,.Constant (.str (Str.ofString "  ")) k3 p4,.Constant (.int 1) k4 p5] [] cY) ρ (tx (b++⟨#[32,32]⟩++r)):=by
 obtain ⟨τ,p,q⟩:=ha.use
 exact ⟨Ox τ,fun i=>Xs (p i) (d8 i) hline,fun σ G H Q s rr k=>q σ G H _ s rr fun x G1 H1 s1 jE=>⟨z,b,r,aB jE,hx,hb,hz,(k.step s1).sc s1.s rfl⟩⟩
end
def vI (K:Frag)(R:List Tr->Dv->Prop):Sp:=fun vs H Q _=>∃ (G:Hp) (ts:List Tr) (fp:List Addr) (d:Dv),ai G H/\aM K G H ts vs fp/\(∀ a ∈ fp,G a=none)/\fp.Nodup/\R ts d/\∀ v G1 H1,Step G (less H fp) G1 H1->Hv K G1 d v->Q v H1
theorem Wg {P:Program}{w:World}{K:Frag}{mg:PySem.Str->Option Value}{base:Heap}{x qual:PySem.Str}{st:Stmt}{dV:Value}{f:Addr}{fd:FuncData}{N ps:List PySem.Str}{k:Nat}{R:List Tr->Dv->Prop}(Fd:iC K x qual st dV f fd)(S:cH N ps (aD st))(hl:∀ ts d,R ts d->ts.length=ps.length)(hb:∀ ts d,R ts d->cz (tD P w K mg base N qual (aD st) f k) (bR st) (Qr N ts) (.rt (.fz d))):bc P w K mg base aG (k+1) f fd ps (vI K R):=by
 refine Fd.ok S (fun vs H Q E ⟨G,ts,fp,b,s,h1,_,_,h2,h3⟩=>by rw [<- h1.length];exact hl ts b h2) fun az A outer s H vs Q E hr h=>?_
 obtain ⟨G,ts,fp,b,s',ol,hg,nd,hR,q⟩:=h
 obtain ⟨τ,x,y⟩:=hb ts b hR
 refine ⟨τ,x ⟨az,A,outer,s,H,E,hr⟩,y _ (start N vs) G (less H fp) G H ⟨fp,⟨ai.refl _,Kw,s',fun a h h'=>absurd h h'⟩,?_,hg,fun a ha=>DL ha,nd⟩ fun v G1 H1 fq s1 o1 w1=>q v G1 H1 s1 o1.2⟩
 unfold start Qr
 rw [<- ol.length]
 exact J0 ol
section
variable {ι:Type}{F:aQ ι}{ρ:En}{pos:Pos}
theorem Wh {k:Nat}{f:Addr}{fd:FuncData}{ps:List PySem.Str}{R:List Tr->Dv->Prop}{g xt x1:PySem.Str}(jt j1:Nat){t1:Tr}{ts:List Tr}{d:Dv}{e2:Expr}{es:List Expr}{p0 p1 pt p5:Pos}(Fn:Kn F.P F.w F.K F.mg F.base aG k g f fd ps (vI F.K R))(hk:k<=F.room)(h1 : ρ[j1]?=some (some t1))(ht:jt < ρ.length)(ha:fF F (e2::es) ρ ts)(hR:R (t1::(dz ts).map .fz) d)(hps:∀ τ:TA,(∀ i,PA (F.cx i) (e2::es) τ)->∀ i,PS (F.cx i) (.Assign [.Name xt pt] (.Call (.Name g p0) (.Name x1 p1::e2::es) [] p5) pos) (hU (vo (vI F.K R) [] E0 (aT (bD j1) τ)) (dZ jt))) :
  Rn F (.Assign [.Name xt pt] (.Call (.Name g p0) (.Name x1 p1::e2::es) [] p5) pos) ρ (.nx ((ρ.set j1 none).set jt (some (.fz d)))):=by
 obtain ⟨bX,p',q'⟩:=ha.use
 refine ⟨_,hps bX p',fun D σ G0 H0 G H r kk=>?_⟩
 obtain ⟨fp,r⟩:=r
 obtain ⟨v1,f1,fr,z1,z2,z3,z4⟩:=r.own.split h1
 have dg:=ue.mp (z4.nodup_iff.mp r.d)
 have lZ:∀ a ∈ f1,a ∈ fp:=fun a ha=>z4.mem_iff.mpr (rf _ ha)
 have vV:∀ a ∈ fr,a ∈ fp:=fun a ha=>z4.mem_iff.mpr (ff _ ha)
 refine ⟨v1,z1,q' σ G H _ r.st.s r.own.lY fun vs G2 H2 s2 hv=>?_⟩
 have off:=aJ.off r.own s2 r.g
 refine ⟨G2,t1::(dz ts).map .fz,f1,d,s2.s,⟨v1,vs,f1,[],CS _,(CS f1).symm,z2.mono s2.g s2.h,hv.lW⟩,fun a ha=>off a (lZ a ha),dg.1,hR,fun v G3 H3 s3 hv3=>?_⟩
 have there:∀ a ∈ fr,∃ o,H2 a=some o:=fun a ha=>by
  obtain ⟨o,ho⟩:=z3.there a ha
  exact ⟨o,s2.h a o ho⟩
 have dj:∀ a ∈ fr,a ∉ f1:=fun a ha z=>dg.2.2 a z a ha rfl
 have agree:∀ a ∈ fr,H3 a=H2 a:=fun a ha=>by
  obtain ⟨o,ho⟩:=there a ha
  rw [ho]
  exact s3.h a o (by rw [si (dj a ha)];exact ho)
 have r2:dU F.K G0 H0 G3 H3 (ρ.set j1 none) σ fr:=by
  refine ⟨⟨r.st.g.trans (s2.g.trans s3.g),fun c o ho=>s3.h c o ?_,s3.s,fun a h h'=>?_⟩,?_,fun a ha=>?_,fun a ha=>r.n a (vV a ha),dg.2.1⟩
  ·rw [si fun z=>by rw [r.n c (lZ c z)] at ho;cases ho]
   exact s2.h c o (r.st.h c o ho)
  ·cases hq:H0 a with
   |none=>rfl
   |some o =>
    exfalso
    have h2:=s2.h a o (r.st.h a o hq)
    have nf:a ∉ f1:=fun z=>by rw [r.n a (lZ a z)] at hq;cases hq
    cases g2:G2 a with
    |none =>
     have:=s3.n a g2 h'
     rw [si nf,h2] at this
     cases this
    |some u =>
     have:=(r.st.trans s2).n a h (by rw [g2];simp)
     rw [hq] at this;cases this
  ·exact (aJ.mono (s2.g.trans s3.g) (ai.refl _) ((aJ.mono (ai.refl _) s2.h z3).agree agree))
  ·cases g3:G3 a with
   |none=>rfl
   |some u =>
    exfalso
    have:=s3.n a (off a (vV a ha)) (by rw [g3];simp)
    obtain ⟨o,ho⟩:=there a ha
    rw [si (dj a ha),ho] at this
    cases this
 obtain ⟨bb,r3⟩:=r2.set (j:=jt) (t:=.fz d) (v:=v) (fq:=[]) (by rw [EN];exact ht) ⟨ai.refl _,ai.refl _,r2.st.s,fun a h h'=>absurd h h'⟩ ⟨rfl,hv3⟩ ⟨fun _ z=>(nomatch z),fun _ z=>(nomatch z),.nil⟩
 exact kk _ G3 H3 ⟨bb,r3⟩
end
end L2
namespace bI
open PySem L2 Sx
def top (i:Nat):Stmt:=PySem.Challenge.pw_lotmeal_k61_tables_no_text.main.body.getD i (.Pass ⟨0,0,0,0⟩)
structure Txt (mg:Str->Option Value):Prop where
 fe:mg "isinstance" = none
 xW:mg "int" = none
 Xu:mg "bool" = none
 Ef:mg "list" = none
 abf:mg "tuple" = none
 sV:mg "str" = none
 aR:mg "len" = none
 jN:mg "range" = none
 Nt:mg "zip" = none
 um:mg "enumerate" = none
 ks:mg "all" = none
 mY:mg "any" = none
 lK:mg "set" = none
 ux:∃ tk,mg "FIGURES" = some (.str "0123456789" tk)
 uh:∃ tk,mg "MOST_FIGURES" = some (.int 60 tk)
 sN:∃ tk,mg "MOST" = some (.int 6 tk)
 rH:∃ tk,mg "MOST_COUNT" = some (.int 9 tk)
 uy:∃ tk,mg "LETTERS" = some (.str "abcdefghijklmnopqrstuvwxyz" tk)
 ui:∃ tk,mg "MOST_LETTERS" = some (.int 8 tk)
 ud:∃ tk,mg "MOST_COUNT_FIGURES" = some (.int 9 tk)
 rJ:∃ tk,mg "FIRST_WORD" = some (.str "things" tk)
section
variable {P:Program}{w:World}{K:Frag}{mg:Str->Option Value}{base:Heap}
structure cm where
 wR:Addr
 mG:Addr
 nZ:Addr
 nR:Addr
 i3:Addr
 iS:Addr
 jS:Addr
 Dl:Addr
 DU:Addr
 Dm:Addr
 lH:Addr
 mQ:Addr
 EG:Addr
 DV:Addr
structure lL (K:Frag) (mg:Str->Option Value) (c:cm) (N:Addr) (aH:List Bool):Prop where
 s:subIn K (.ref N) (.ref c.wR)=some true
 a:gP K N
 v:kitOne K (.ref N) (.type "ValueError")=some true
 r0:kitOne K (.ref N) (.ref c.DU)=some (aH.getD 0 false)
 r1:kitOne K (.ref N) (.ref c.mG)=some (aH.getD 1 false)
 r2:kitOne K (.ref N) (.ref c.nZ)=some (aH.getD 2 false)
 r3:kitOne K (.ref N) (.ref c.i3)=some (aH.getD 3 false)
 r4:kitOne K (.ref N) (.ref c.iS)=some (aH.getD 4 false)
 r5:kitOne K (.ref N) (.ref c.nR)=some (aH.getD 5 false)
 r6:kitOne K (.ref N) (.ref c.jS)=some (aH.getD 6 false)
 r7:kitOne K (.ref N) (.ref c.Dl)=some (aH.getD 7 false)
 r8:kitOne K (.ref N) (.ref c.Dm)=some (aH.getD 8 false)
 r9:kitOne K (.ref N) (.ref c.lH)=some (aH.getD 9 false)
 nz:kitOne K (.ref N) (.ref c.mQ)=some (aH.getD 10 false)
 r11:kitOne K (.ref N) (.ref c.EG)=some (aH.getD 11 false)
 r12:kitOne K (.ref N) (.ref c.DV)=some (aH.getD 12 false)
def an (n:Nat):List Bool:=(List.range 13).map fun i=>i==n
structure iT (K:Frag) (mg:Str->Option Value) (c:cm) (ft fw:Addr):Prop where
 SR:mg "ValueError" = none
 cat:GW K mg "LotError" c.wR
 rR:mg "TooGreat" = some (.ref c.mG)
 rZ:mg "NoAsker" = some (.ref c.nZ)
 rS:mg "NoNumber" = some (.ref c.nR)
 sd:mg "NoThing" = some (.ref c.i3)
 pZ:mg "Twice" = some (.ref c.iS)
 mH:mg "NoText" = some (.ref c.jS)
 uo:mg "NoShares" = some (.ref c.Dl)
 uz:mg "NoTurns" = some (.ref c.DU)
 uq:mg "NoTicket" = some (.ref c.Dm)
 sk:mg "NoName" = some (.ref c.lH)
 so:mg "Double" = some (.ref c.mQ)
 uV:mg "NoRow" = some (.ref c.EG)
 uA:mg "NoTable" = some (.ref c.DV)
 ur:excIn K c.mG dq "ValueError.__new__" = true
 uB:excIn K c.nZ dq "ValueError.__new__" = true
 uv:excIn K c.nR dq "ValueError.__new__" = true
 nS:excIn K c.jS dq "ValueError.__new__" = true
 uF:excIn K c.lH dq "ValueError.__new__" = true
 uG:excIn K c.mQ dq "ValueError.__new__" = true
 xt:XI K c.i3 c.wR ft
 xw:XI K c.iS c.wR fw
 nt:sI K c.i3 "asker"
 nw:sI K c.iS "asker"
 ht:hasDictIn K c.i3=true
 hw:hasDictIn K c.iS=true
 JH:lL K mg c c.mG (an 1)
 UG:lL K mg c c.nZ (an 2)
 TC:lL K mg c c.nR (an 5)
 UH:lL K mg c c.i3 (an 3)
 Mb:lL K mg c c.iS (an 4)
 Vj:lL K mg c c.jS (an 6)
 Vk:lL K mg c c.lH (an 9)
 Vl:lL K mg c c.mQ (an 10)
def Oy:Stmt->List Stmt
 | .ClassDef _ _ _ b _ _ _ _ _ _ _=>b
 |_=>[]
abbrev sy:Stmt:=(Oy (top 6)).getD 0 (.Pass ⟨0,0,0,0⟩)
theorem Vm:cH ["self", "asker"] ["self", "asker"] (aD sy):=eA
theorem Vn {ft fw:Addr}{fd:FuncData}{c:cm}(F:iC K "__init__" "NoThing.__init__" sy .none ft fd)(U:iT K mg c ft fw):bc P w K mg base aG 1 ft fd ["self", "asker"] (rA c.i3 "asker"):=by
 refine F.ok Vm (fun vs H Q E ⟨_,_,h,_⟩=>by rw [h];rfl) fun az A outer s H vs Q E hr h=>?_
 obtain ⟨e,v,rfl,he,q⟩:=h
 refine ⟨_,bM (eY (LO (by rfl) U.cat.g U.xt (au (pv 0) (au xv aV)))) (mI (LQ rfl U.xt U.nt (pv 0) (pv 1))),?_⟩
 refine ⟨_,rfl,e,_,rfl,he,?_⟩
 exact ⟨_,rfl,_,rfl,e,rfl,he,fun dx h1 h2=>q dx h1 h2⟩
abbrev sA:Stmt:=(Oy (top 7)).getD 0 (.Pass ⟨0,0,0,0⟩)
theorem Vo:cH ["self", "asker"] ["self", "asker"] (aD sA):=eA
theorem Vp {ft fw:Addr}{fd:FuncData}{c:cm}(F:iC K "__init__" "Twice.__init__" sA .none fw fd)(U:iT K mg c ft fw):bc P w K mg base aG 1 fw fd ["self", "asker"] (rA c.iS "asker"):=by
 refine F.ok Vo (fun vs H Q E ⟨_,_,h,_⟩=>by rw [h];rfl) fun az A outer s H vs Q E hr h=>?_
 obtain ⟨e,v,rfl,he,q⟩:=h
 refine ⟨_,bM (eY (LO (by rfl) U.cat.g U.xw (au (pv 0) (au xv aV)))) (mI (LQ rfl U.xw U.nw (pv 0) (pv 1))),?_⟩
 refine ⟨_,rfl,e,_,rfl,he,?_⟩
 exact ⟨_,rfl,_,rfl,e,rfl,he,fun dx h1 h2=>q dx h1 h2⟩
inductive eD where
 |great | oB | number | thing (j:Nat) | twice (j:Nat) | text | name | double | made
def qH (n:Int)(o:LI):Bool:=(o.map fun x=>decide (x<0) || decide (n<=x)).any id
def lQ (o:LI):Bool:=!decide (((unlike o:Nat):Int)=(o.length:Nat))
def tG (cs:LI)(os:LL):eD :=
 if 6<cs.length\/6<os.length then .great else if os.length=0 then .oB else if (cs.map fun x=>decide (x<0) || decide (9<x)).any id=true then .number else
  match os.findIdx? (qH cs.length) with
  |some j=>.thing j
  |none=>match os.findIdx? lQ with
   |some j=>.twice j
   |none=>.made
abbrev jZ:=Hp->Hp->XK->Prop
def qI (c:cm):eD->Option jZ
 | .great=>some fun G H E=>gX G H c.mG E
 | .oB=>some fun G H E=>gX G H c.nZ E
 | .number=>some fun G H E=>gX G H c.nR E
 | .thing j=>some fun G H E=>pd G H c.i3 "asker" (.int j) E
 | .twice j=>some fun G H E=>pd G H c.iS "asker" (.int j) E
 | .text=>some fun G H E=>gX G H c.jS E
 | .name=>some fun G H E=>gX G H c.lH E
 | .double=>some fun G H E=>gX G H c.mQ E
 | .made=>none
structure Fp (cs:LI) (os:LL):Prop where
 c:cs.length<=100
 o:os.length<=100
 r:∀ o ∈ os,o.length<=100
theorem find_some {p:LI->Bool}{os:LL}{j:Nat}(h:os.findIdx? p=some j):∃ o,os[j]?=some o/\p o=true/\∀ k o',k<j->os[k]?=some o'->p o'=false:=by
 obtain ⟨hl,h1,h2⟩:=Of.mp h
 refine ⟨os[j],ar hl,h1,fun k o' hk ho=>?_⟩
 obtain ⟨QD,rfl⟩:=gz.mp ho
 have:=h2 k hk
 simpa using this
theorem find_none {p:LI->Bool}{os:LL}(h:os.findIdx? p=none):∀ o ∈ os,p o=false:=fun o ho=>by
 have:=NH.mp h o ho
 simpa using this
abbrev pA:Stmt:=top 22
theorem pw:cH ["orders", "many", "asker", "order"] ["orders", "many"] (aD pA):=eA
theorem fj {α:Type}(l:List α)(f : α->Bool):er (.ow (l.map fun k=>Tr.fz (db (f k))))=.lst ((l.map f).map db):=by
 rw [rX,qr];rfl
def MJ (dd:List Dv)(t:Tr):Prop:=∃ (os:LL) (n:Int),(∀ o ∈ os,o.length<=100)/\(∀ o ∈ os,qH n o=false)/\(∀ o ∈ os,lQ o=false)/\dd=[.lst (os.map dis),di n]/\t=tn
theorem RV {f:Addr}{fd:FuncData}{k:Nat}(F:cE K "check_orders" "check_orders" pA f fd)(T:Txt mg):bc P w K mg base aG (k+1) f fd ["orders", "many"] (spT K MJ):=by
 refine fQ F.d pw (fun dd t h=>by obtain ⟨_,_,_,_,_,rfl,_⟩:=h;rfl) fun dd t h=>?_
 obtain ⟨os,n,ho,hb,hd2,rfl,rfl⟩:=h
 refine ⟨_,.inr ⟨rfl,[some (.fz (.lst (os.map dis))),some (ti n),none,none],rfl⟩,?_⟩
 have big : 1000<sizeLine:=by decide
 refine aE (ρ1:=[some (.fz (.lst (os.map dis))),some (ti n),none,none]) (kl (aX.s (uD T.um (ae 0 rfl) rfl)) (p9 2 3 (fun _=>pw.nd)) (fun _=>[some (.fz (.lst (os.map dis))),some (ti n),none,none]) rfl (fun _=>rfl) (fun j d hd=>?_)) ?_
 ·obtain ⟨x,hx,rfl⟩:=uO hd
  obtain ⟨o,cu,rfl⟩:=iN hx
  have om:=ma cu
  have o2:=ho o om
  refine ⟨_,_,rfl,aS (cA (Et.s (dY (mP (bs:=o.map fun x=>decide (x<0) || decide (n<=x)) T.mY (dh (own:=["thing"]) (fr:=[1]) o di (fun x=>tb (decide (x<0) || decide (n<=x))) (fun i=>bQ) (bN (ae 3 rfl) rfl) (aZ 0 (fun _=>by show List.Nodup (["thing", "many"]:List Str);decide)) (by decide) (by omega) (fun x hx=>⟨_,rfl,qs (qq (ae 0 rfl) af) fun _=>mO (xQ (ae 0 rfl) (ae 1 rfl))⟩) (fun dd=>by cases dd<;>rfl)) (fj o _)))) ?_),[2,3],rfl⟩
  exact hb o om
 refine aE (ρ1:=[some (.fz (.lst (os.map dis))),some (ti n),none,none]) (kl (aX.s (uD T.um (ae 0 rfl) rfl)) (p9 2 3 (fun _=>pw.nd)) (fun _=>[some (.fz (.lst (os.map dis))),some (ti n),none,none]) rfl (fun _=>rfl) (fun j d hd=>?_)) LA
 ·obtain ⟨x,hx,rfl⟩:=uO hd
  obtain ⟨o,cu,rfl⟩:=iN hx
  have om:=ma cu
  have o2:=ho o om
  refine ⟨_,_,rfl,aS (cA (Et.s (oA (Cv T.aR T.lK (ae 3 rfl) rfl (by omega)) (bK T.aR (ae 3 rfl) (.inl rfl)))) ?_),[2,3],rfl⟩
  have hz:=hd2 o om
  unfold lQ at hz
  rw [aa]
  exact hz
theorem Xv {xs:List Dv}{j:Nat}{x:Dv}(h:xs[j]?=some x):(oK xs)[j]?=some (.tup [di (j:Nat),x]):=by
 unfold oK
 rw [abv,IS (gz.mp h).1,h]
def Nu (c:cm)(dd:List Dv)(Ξ:jZ):Prop:=∃ (os:LL) (n:Int) (j:Nat) (o:LI),(∀ o ∈ os,o.length<=100)/\dd=[.lst (os.map dis),di n]/\os[j]?=some o /\
 ((qH n o=true/\(∀ k o',k<j->os[k]?=some o'->qH n o'=false)/\Ξ=fun G H E=>pd G H c.i3 "asker" (.int j) E)\/((∀ o ∈ os,qH n o=false)/\lQ o=true/\(∀ k o',k<j->os[k]?=some o'->lQ o'=false)/\Ξ=fun G H E=>pd G H c.iS "asker" (.int j) E))
theorem RQ {f ft fw:Addr}{fd QE QF:FuncData}{k:Nat}{c:cm}(F:cE K "check_orders" "check_orders" pA f fd)(T:Txt mg)(U:iT K mg c ft fw)(Ft:bc P w K mg base aG 1 ft QE ["self", "asker"] (rA c.i3 "asker"))(bt:Binds K QE ["self", "asker"] [])(Fw:bc P w K mg base aG 1 fw QF ["self", "asker"] (rA c.iS "asker"))(bw:Binds K QF ["self", "asker"] []):bc P w K mg base (bq P w) (k+3) f fd ["orders", "many"] (dP K (Nu c)):=by
 refine pY F.d pw (fun dd Ξ h=>by obtain ⟨_,_,_,_,_,rfl,_⟩:=h;rfl) fun dd Ξ h=>?_
 obtain ⟨os,n,j,o,ho,rfl,hj,h⟩:=h
 have big : 1000<sizeLine:=by decide
 have om0:=ma hj
 have jF:=ho o om0
 have jd:(oK (os.map dis))[j]?=some (.tup [di (j:Nat),dis o]):=by
  exact Xv (by rw [i4,hj];rfl)
 rcases h with ⟨h1,h2,rfl⟩ | ⟨h0,h1,h2,rfl⟩
 ·refine DP (aX.s (uD T.um (ae 0 rfl) rfl)) (p9 2 3 (fun _=>pw.nd)) (fun _=>[some (.fz (.lst (os.map dis))),some (ti n),none,none]) j rfl (fun _=>rfl) (fun i d hi hd=>?_) ⟨_,_,jd,rfl,kn (cG.to (q:=true) (Et.s (dY (mP (bs:=o.map fun x=>decide (x<0) || decide (n<=x)) T.mY (dh (own:=["thing"]) (fr:=[1]) o di (fun x=>tb (decide (x<0) || decide (n<=x))) (fun i=>bQ) (bN (ae 3 rfl) rfl) (aZ 0 (fun _=>by show List.Nodup (["thing", "many"]:List Str);decide)) (by decide) (by omega) (fun x hx=>⟨_,rfl,qs (qq (ae 0 rfl) af) fun _=>mO (xQ (ae 0 rfl) (ae 1 rfl))⟩) (fun dd=>by cases dd<;>rfl)) (fj o _)))) h1) (v8.g (JZ U.sd U.xt Ft (by omega) bt (ae 2 rfl)))⟩ sv
  obtain ⟨x,hx,rfl⟩:=uO hd
  obtain ⟨o',cu,rfl⟩:=iN hx
  have o2:=ho o' (ma cu)
  refine ⟨_,_,rfl,aS (cA (Et.s (dY (mP (bs:=o'.map fun x=>decide (x<0) || decide (n<=x)) T.mY (dh (own:=["thing"]) (fr:=[1]) o' di (fun x=>tb (decide (x<0) || decide (n<=x))) (fun i=>bQ) (bN (ae 3 rfl) rfl) (aZ 0 (fun _=>by show List.Nodup (["thing", "many"]:List Str);decide)) (by decide) (by omega) (fun x hx=>⟨_,rfl,qs (qq (ae 0 rfl) af) fun _=>mO (xQ (ae 0 rfl) (ae 1 rfl))⟩) (fun dd=>by cases dd<;>rfl)) (fj o' _)))) ?_),[2,3],rfl⟩
  exact h2 i o' hi cu
 ·refine fN (ρ1:=[some (.fz (.lst (os.map dis))),some (ti n),none,none]) (kl (aX.s (uD T.um (ae 0 rfl) rfl)) (p9 2 3 (fun _=>pw.nd)) (fun _=>[some (.fz (.lst (os.map dis))),some (ti n),none,none]) rfl (fun _=>rfl) (fun i d hd=>?_)) ?_
  ·obtain ⟨x,hx,rfl⟩:=uO hd
   obtain ⟨o',cu,rfl⟩:=iN hx
   have om:=ma cu
   have o2:=ho o' om
   refine ⟨_,_,rfl,aS (cA (Et.s (dY (mP (bs:=o'.map fun x=>decide (x<0) || decide (n<=x)) T.mY (dh (own:=["thing"]) (fr:=[1]) o' di (fun x=>tb (decide (x<0) || decide (n<=x))) (fun i=>bQ) (bN (ae 3 rfl) rfl) (aZ 0 (fun _=>by show List.Nodup (["thing", "many"]:List Str);decide)) (by decide) (by omega) (fun x hx=>⟨_,rfl,qs (qq (ae 0 rfl) af) fun _=>mO (xQ (ae 0 rfl) (ae 1 rfl))⟩) (fun dd=>by cases dd<;>rfl)) (fj o' _)))) ?_),[2,3],rfl⟩
   exact h0 o' om
  ·refine DP (aX.s (uD T.um (ae 0 rfl) rfl)) (p9 2 3 (fun _=>pw.nd)) (fun _=>[some (.fz (.lst (os.map dis))),some (ti n),none,none]) j rfl (fun _=>rfl) (fun i d hi hd=>?_) ⟨_,_,jd,rfl,kn (cG.to (q:=true) (Et.s (oA (Cv T.aR T.lK (ae 3 rfl) rfl (by omega)) (bK T.aR (ae 3 rfl) (.inl rfl)))) ?_) (v8.g (JZ U.pZ U.xw Fw (by omega) bw (ae 2 rfl)))⟩ sv
   ·obtain ⟨x,hx,rfl⟩:=uO hd
    obtain ⟨o',cu,rfl⟩:=iN hx
    have o2:=ho o' (ma cu)
    refine ⟨_,_,rfl,aS (cA (Et.s (oA (Cv T.aR T.lK (ae 3 rfl) rfl (by omega)) (bK T.aR (ae 3 rfl) (.inl rfl)))) ?_),[2,3],rfl⟩
    have hz:=h2 i o' hi cu
    unfold lQ at hz
    rw [aa]
    exact hz
   ·unfold lQ at h1
    rw [aa]
    exact h1
end
section
variable {P:Program}{w:World}{K:Frag}{mg:Str->Option Value}{base:Heap}
abbrev pK:Stmt:=top 23
theorem Jy:cH ["counts", "orders"] ["counts", "orders"] (aD pK):=eA
theorem MK {c:LI}{os:LL}(h:¬ (6<c.length\/6<os.length)):(decide ((6:Int)<((c.map di).length:Nat)) || decide ((6:Int)<((os.map dis).length:Nat)))=false:=by
 rw [aa,aa,uu (by omega),uu (by omega)];rfl
theorem Yo {c:LI}{os:LL}(h : 6<c.length\/6<os.length):(decide ((6:Int)<((c.map di).length:Nat)) || decide ((6:Int)<((os.map dis).length:Nat)))=true:=by
 rw [aa,aa]
 rcases h with h | h
 ·rw [zw (show (6:Int)<(c.length:Nat) by omega)];rfl
 ·rw [zw (show (6:Int)<(os.length:Nat) by omega),Bool.or_true]
def Oz (dd:List Dv)(t:Tr):Prop:=∃ (c:LI) (os:LL),Fp c os/\tG c os=.made/\dd=[dis c,.lst (os.map dis)]/\t=.tp [cU c,kr os]
theorem S8 {f f1:Addr}{fd cW:FuncData}{k:Nat}(F:cE K "table_of" "table_of" pK f fd)(T:Txt mg)(R1:Kn P w K mg base aG (k+1) "check_orders" f1 cW ["orders", "many"] (spT K MJ)):bc P w K mg base aG (k+2) f fd ["counts", "orders"] (spT K Oz):=by
 refine fQ F.d Jy (fun dd t h=>by obtain ⟨_,_,_,_,rfl,_⟩:=h;rfl) fun dd t h=>?_
 obtain ⟨c,os,sz,hw,rfl,rfl⟩:=h
 refine ⟨_,.inl rfl,?_⟩
 have big : 1000<sizeLine:=by decide
 have c6:=sz.c
 have o6:=sz.o
 obtain ⟨tk,gm⟩:=T.sN
 obtain ⟨yT,kS⟩:=T.rH
 unfold tG at hw
 split at hw
 ·cases hw
 rename_i w1
 split at hw
 ·cases hw
 rename_i w2
 split at hw
 ·cases hw
 rename_i w3
 split at hw
 ·cases hw
 rename_i w4
 split at hw
 ·cases hw
 rename_i w5
 refine aE (cA (Et.s (Ew.et (iA (i9 (bK T.aR (ae 0 rfl) (.inl rfl)) (gh (v:=.int 6) gm ⟨_,rfl⟩ rfl)) fun _=>(iP (i9 (bK T.aR (ae 1 rfl) (.inl rfl)) (gh (v:=.int 6) gm ⟨_,rfl⟩ rfl)))))) (MK w1)) ?_
 refine aE (cA (Et.s (eh (bK T.aR (ae 1 rfl) (.inl rfl)) af)) (by rw [aa,uu (by omega)])) ?_
 refine aE (cA (Et.s (dY (mP (bs:=c.map fun x=>decide (x<0) || decide (9<x)) T.mY (dh (own:=["count"]) (fr:=[]) c di (fun x=>tb (decide (x<0) || decide (9<x))) (fun i=>bQ) (bN (ae 0 rfl) rfl) (aZ 0 (fun _=>by show List.Nodup (["count"]:List Str);decide)) (by decide) (by omega) (fun x hx=>⟨_,rfl,by exact qs (qq (ae 0 rfl) af) fun _=>mO (ED (ae 0 rfl) (gh (v:=.int 9) kS ⟨_,rfl⟩ rfl))⟩) (fun dd=>by cases dd<;>rfl)) (fj c _)))) (by simpa using w3)) ?_
 refine aE (pV (Ev.s (bZ R1 (ee _) (ah (ae 1 rfl) (ah (bK T.aR (ae 0 rfl) (.inl rfl)) ao)) ⟨os,c.length,sz.r,find_none w4,find_none w5,?_,rfl⟩))) ?_
 rotate_left
 ·rw [aa];rfl
 refine aS (de (Ev.s (Ev.to (jQ (ah (Ly T.Ef (ae 0 rfl) (.inl rfl)) (ah (dh (own:=["order"]) (fr:=[]) os dis cU (fun i=>bQ) (bN (ae 1 rfl) rfl) (aZ 0 (fun _=>by show List.Nodup (["order"]:List Str);decide)) (by decide) (by omega) (fun o ho=>⟨_,rfl,Ev.to (Ly T.Ef (ae 0 rfl) (.inl rfl)) (by rw [xl])⟩) (fun dd=>by cases dd<;>rfl)) ao)) (by show 2<=sizeLine;decide)) (by rw [xl]))))
def Nv (c:cm)(dd:List Dv)(Ξ:jZ):Prop:=∃ (cs:LI) (os:LL),Fp cs os/\dd=[dis cs,.lst (os.map dis)]/\qI c (tG cs os)=some Ξ
theorem SU {f f1 ft fw:Addr}{fd cW:FuncData}{k:Nat}{cs:cm}(F:cE K "table_of" "table_of" pK f fd)(T:Txt mg)(U:iT K mg cs ft fw)(Xw:Kn P w K mg base (bq P w) (k+3) "check_orders" f1 cW ["orders", "many"] (dP K (Nu cs))):bc P w K mg base (bq P w) (k+4) f fd ["counts", "orders"] (dP K (Nv cs)):=by
 refine pY F.d Jy (fun dd Ξ h=>by obtain ⟨_,_,_,rfl,_⟩:=h;rfl) fun dd Ξ h=>?_
 obtain ⟨c,os,sz,rfl,hw⟩:=h
 have big : 1000<sizeLine:=by decide
 have c6:=sz.c
 have o6:=sz.o
 obtain ⟨tk,gm⟩:=T.sN
 obtain ⟨yT,kS⟩:=T.rH
 unfold tG at hw
 split at hw
 ·rename_i w1
  cases hw
  exact kn (cG.to (q:=true) (Et.s (Ew.et (iA (i9 (bK T.aR (ae 0 rfl) (.inl rfl)) (gh (v:=.int 6) gm ⟨_,rfl⟩ rfl)) fun _=>(iP (i9 (bK T.aR (ae 1 rfl) (.inl rfl)) (gh (v:=.int 6) gm ⟨_,rfl⟩ rfl)))))) (Yo w1)) (kc.g (mE U.rR U.ur))
 rename_i w1
 refine fN (cA (Et.s (Ew.et (iA (i9 (bK T.aR (ae 0 rfl) (.inl rfl)) (gh (v:=.int 6) gm ⟨_,rfl⟩ rfl)) fun _=>(iP (i9 (bK T.aR (ae 1 rfl) (.inl rfl)) (gh (v:=.int 6) gm ⟨_,rfl⟩ rfl)))))) (MK w1)) ?_
 split at hw
 ·rename_i w2
  cases hw
  exact kn (cG.to (q:=true) (Et.s (eh (bK T.aR (ae 1 rfl) (.inl rfl)) af)) (by rw [aa,zw (by omega)])) (kc.g (mE U.rZ U.uB))
 rename_i w2
 refine fN (cA (Et.s (eh (bK T.aR (ae 1 rfl) (.inl rfl)) af)) (by rw [aa,uu (by omega)])) ?_
 split at hw
 ·rename_i w3
  cases hw
  exact kn (cG.to (q:=true) (Et.s (dY (mP (bs:=c.map fun x=>decide (x<0) || decide (9<x)) T.mY (dh (own:=["count"]) (fr:=[]) c di (fun x=>tb (decide (x<0) || decide (9<x))) (fun i=>bQ) (bN (ae 0 rfl) rfl) (aZ 0 (fun _=>by show List.Nodup (["count"]:List Str);decide)) (by decide) (by omega) (fun x hx=>⟨_,rfl,by exact qs (qq (ae 0 rfl) af) fun _=>mO (ED (ae 0 rfl) (gh (v:=.int 9) kS ⟨_,rfl⟩ rfl))⟩) (fun dd=>by cases dd<;>rfl)) (fj c _)))) w3) (kc.g (mE U.rS U.uv))
 rename_i w3
 refine fN (cA (Et.s (dY (mP (bs:=c.map fun x=>decide (x<0) || decide (9<x)) T.mY (dh (own:=["count"]) (fr:=[]) c di (fun x=>tb (decide (x<0) || decide (9<x))) (fun i=>bQ) (bN (ae 0 rfl) rfl) (aZ 0 (fun _=>by show List.Nodup (["count"]:List Str);decide)) (by decide) (by omega) (fun x hx=>⟨_,rfl,by exact qs (qq (ae 0 rfl) af) fun _=>mO (ED (ae 0 rfl) (gh (v:=.int 9) kS ⟨_,rfl⟩ rfl))⟩) (fun dd=>by cases dd<;>rfl)) (fj c _)))) (by simpa using w3)) ?_
 have la:Later Ξ:=by
  split at hw
  ·cases hw;exact sv
  ·split at hw
   ·cases hw;exact sv
   ·cases hw
 refine wN Xw (ee _) (ah (ae 1 rfl) (ah (bK T.aR (ae 0 rfl) (.inl rfl)) ao)) ?_ la
 have e0:((c.map di).length:Int)=(c.length:Nat):=by rw [aa]
 split at hw
 ·rename_i j w4
  cases hw
  obtain ⟨o,h1,h2,h3⟩:=find_some w4
  exact ⟨os,c.length,j,o,sz.r,by show [_,di _]=_;rw [e0];rfl,h1,.inl ⟨h2,h3,rfl⟩⟩
 ·rename_i w4
  split at hw
  ·rename_i j w5
   cases hw
   obtain ⟨o,h1,h2,h3⟩:=find_some w5
   exact ⟨os,c.length,j,o,sz.r,by show [_,di _]=_;rw [e0];rfl,h1,.inr ⟨find_none w4,h2,h3,rfl⟩⟩
  ·cases hw
theorem KN {c:cm}{ω:eD}{Ξ:jZ}(h:qI c ω=some Ξ):Later Ξ:=by
 cases ω with
 |thing j=>cases h;exact sv
 |twice j=>cases h;exact sv
 |made=>cases h
 |_=>cases h;exact pX
end
section
variable {P:Program}{w:World}{K:Frag}{mg:Str->Option Value}{base:Heap}
abbrev QG:List Str:=["_law_e", "_law_some"]
abbrev pB:Stmt:=top 42
theorem ug:cH QG ["_law_e"] (aD pB):=eA
theorem YY {N:List Str}{qual:Str}{av sc:Scope}{f:Addr}{cd:Value}{A:Around}{outer:List Env}{s:Shared}{H:Hp}{fr:List Nat}(L:DJ N av sc fr):gy (yR P w K mg base N qual av f cd A outer s H) sc (fB (cellsFrom (s.heap.objs.size+1) av.names []) sc.names []) fr:=by
 have Z:=lcs (CX:=aG) (P:=P) (w:=w) (K:=K) (mg:=mg) (base:=base) (qual:=qual) (f:=f) (cd:=cd) (A:=A) (outer:=outer) (s:=s) (H:=H) (E:=fun _ _ _=>False) (XE:=fun _ _=>False) L
 exact ⟨Z.tf,Z.kind,Z.cells,Z.names,Z.sub,Z.has,Z.Gj⟩
theorem Fq {X:Cx}{K:Frag}(h:X.K=K):dv X (binaryOp .Add) (Ez K):=h ▸ Lp
def qJ (aH:List Bool):List Bool:=[(aH.getD 0 false),(aH.getD 1 false),(aH.getD 2 false),(aH.getD 3 false),(aH.getD 4 false),(aH.getD 5 false),(aH.getD 6 false),(aH.getD 7 false),(aH.getD 8 false),(aH.getD 9 false),(aH.getD 10 false),(aH.getD 11 false),(aH.getD 12 false),true]
def mi (fl:List Bool)(n:Nat):LI:=((List.range n).filter fun i=>fl.getD i false).map fun (i:Nat)=>(0+(i:Int))
theorem Vq (fl:List Bool)(n:Nat):mi fl (n+1)=if fl.getD n false=true then mi fl n++[0+(n:Int)] else mi fl n:=by
 unfold mi
 rw [List.range_succ,List.filter_append,Cf,abE,List.filter_nil]
 cases h:fl.getD n false<;>simp
theorem Wi (fl:List Bool)(n:Nat):(mi fl n).length<=n:=by
 unfold mi
 rw [aa]
 have:=List.length_filter_le (fun i=>fl.getD i false) (List.range n)
 rw [BY] at this
 exact this
theorem Vr (aH:List Bool)(i:Nat)(h:i<14):cC ((qJ aH).map V.bl) (0+(i:Int))=some (.bl ((qJ aH).getD i false)):=by
 have h':i<(qJ aH).length:=h
 rw [YI]
 exact gx (by rw [i4,ar h',br,ar h'];rfl)
def xX (K:Frag)(mg:Str->Option Value)(c:cm)(x:Addr):Sp:=fun vs H Q _=>∃ (N:Addr) (d:Option Addr) (aH:List Bool),vs=[.ref x]/\H x=some (dO x N d)/\lL K mg c N aH/\∀ l H',ai H H'->H l=none->H' l=some (.lst ((mi (qJ aH) 14).map V.int))->Q (.ref l) H'
theorem RW {f ft fw:Addr}{fd:FuncData}{c:cm}(F:cE K "_law_classes" "_law_classes" pB f fd)(T:Txt mg)(U:iT K mg c ft fw):xU P w K mg base 1 f fd ["_law_e"] (xX K mg c):=by
 refine F.d.okH ug (fun x vs H Q E ⟨_,_,_,h,_⟩=>by rw [h];rfl) fun x az A outer s H vs Q hh hr h=>?_
 obtain ⟨N,d,aH,rfl,he,X,q⟩:=h
 refine ⟨_,bM (lD (i:=1) ug.nd rfl (Or.inr rfl) (u5 (au (fL (iq (K:=K) rfl) (by rfl) T.fe gZ (au (pv 0) (au (iw (v:=.ref c.DU) (by rfl) U.uz rfl) aV))) (au (fL (iq (K:=K) rfl) (by rfl) T.fe gZ (au (pv 0) (au (iw (v:=.ref c.mG) (by rfl) U.rR rfl) aV))) (au (fL (iq (K:=K) rfl) (by rfl) T.fe gZ (au (pv 0) (au (iw (v:=.ref c.nZ) (by rfl) U.rZ rfl) aV))) (au (fL (iq (K:=K) rfl) (by rfl) T.fe gZ (au (pv 0) (au (iw (v:=.ref c.i3) (by rfl) U.sd rfl) aV))) aV))))))
  (bM (lD (i:=1) ug.nd rfl (Or.inr rfl) (xM (Fq (K:=K) rfl) (pv 1) (u5 (au (fL (iq (K:=K) rfl) (by rfl) T.fe gZ (au (pv 0) (au (iw (v:=.ref c.iS) (by rfl) U.pZ rfl) aV))) (au (fL (iq (K:=K) rfl) (by rfl) T.fe gZ (au (pv 0) (au (iw (v:=.ref c.nR) (by rfl) U.rS rfl) aV))) (au (fL (iq (K:=K) rfl) (by rfl) T.fe gZ (au (pv 0) (au (iw (v:=.ref c.jS) (by rfl) U.mH rfl) aV))) (au (fL (iq (K:=K) rfl) (by rfl) T.fe gZ (au (pv 0) (au (iw (v:=.ref c.Dl) (by rfl) U.uo rfl) aV))) aV)))))))
  (bM (lD (i:=1) ug.nd rfl (Or.inr rfl) (xM (Fq (K:=K) rfl) (pv 1) (u5 (au (fL (iq (K:=K) rfl) (by rfl) T.fe gZ (au (pv 0) (au (iw (v:=.ref c.Dm) (by rfl) U.uq rfl) aV))) (au (fL (iq (K:=K) rfl) (by rfl) T.fe gZ (au (pv 0) (au (iw (v:=.ref c.lH) (by rfl) U.sk rfl) aV))) (au (fL (iq (K:=K) rfl) (by rfl) T.fe gZ (au (pv 0) (au (iw (v:=.ref c.mQ) (by rfl) U.so rfl) aV))) (au (fL (iq (K:=K) rfl) (by rfl) T.fe gZ (au (pv 0) (au (iw (v:=.ref c.EG) (by rfl) U.uV rfl) aV))) aV)))))))
  (bM (lD (i:=1) ug.nd rfl (Or.inr rfl) (xM (Fq (K:=K) rfl) (pv 1) (u5 (au (fL (iq (K:=K) rfl) (by rfl) T.fe gZ (au (pv 0) (au (iw (v:=.ref c.DV) (by rfl) U.uA rfl) aV))) (au (fL (iq (K:=K) rfl) (by rfl) T.fe gZ (au (pv 0) (au (Lf (v:=.ty "ValueError") (by rfl) U.SR Sa rfl) aV))) aV)))))
  (mI (og (Xf (X:=(yR P w K mg base QG "_law_classes" (aD pB) f az A outer s H)) (own:=["_law_k"]) (fr:=[1]) (YY ⟨rfl,rfl,by decide +kernel,by decide +kernel,by decide +kernel,by decide +kernel⟩) (Ut hh rfl T.jN (au D0 aV)) (fun C s H ex pn=>fO (i:=0) (by show List.Nodup (["_law_k", "_law_some"]:List Str);decide) rfl (Or.inl rfl)) (fun C s H ex pn=>Nc (D1 (qh (Kq (K:=K) rfl) (pv (x := "_law_some") 1) (pv (x := "_law_k") 0) (fun _ _=>rfl))) rfl) (fun C s H ex pn=>pv (x := "_law_k") 0))))))),?_⟩
 show cq _ _ _ [some (.ref x),none] H
 refine ⟨_,rfl,x,_,_,_,d,rfl,he,X.a,(fun u r=>by cases r;exact X.r0),_,rfl,x,_,_,_,d,rfl,he,X.a,(fun u r=>by cases r;exact X.r1),_,rfl,x,_,_,_,d,rfl,he,X.a,(fun u r=>by cases r;exact X.r2),_,rfl,x,_,_,_,d,rfl,he,X.a,(fun u r=>by cases r;exact X.r3),by show 4<=sizeLine;decide,fun l1 yU=>?_⟩
 generalize md:[V.bl (aH.getD 0 false),V.bl (aH.getD 1 false),V.bl (aH.getD 2 false),V.bl (aH.getD 3 false)]=B1
 have QH:B1.length=4:=by rw [<- md];rfl
 have e1:ai H (upd H l1 (.lst B1)):=ai.new yU
 have g1:upd H l1 (.lst B1) l1=some (.lst B1):=bT
 have x1:=e1 _ _ he
 show cq _ _ _ [some (.ref x),some (.ref l1)] (upd H l1 (.lst B1))
 generalize upd H l1 (.lst B1)=H1 at e1 g1 x1
 refine ⟨_,rfl,_,rfl,x,_,_,_,d,rfl,x1,X.a,(fun u r=>by cases r;exact X.r4),_,rfl,x,_,_,_,d,rfl,x1,X.a,(fun u r=>by cases r;exact X.r5),_,rfl,x,_,_,_,d,rfl,x1,X.a,(fun u r=>by cases r;exact X.r6),_,rfl,x,_,_,_,d,rfl,x1,X.a,(fun u r=>by cases r;exact X.r7),by show 4<=sizeLine;decide,fun m1 hm1=>?_⟩
 have f1:ai H1 (upd H1 m1 (.lst [V.bl (aH.getD 4 false),V.bl (aH.getD 5 false),V.bl (aH.getD 6 false),V.bl (aH.getD 7 false)])):=ai.new hm1
 refine ⟨l1,m1,_,_,rfl,rfl,aF.of (f1 _ _ g1),aF.of bT,by rw [QH];show 8<=sizeLine;decide,fun l2 Gg=>?_⟩
 have QI:ai H (upd H1 m1 (.lst [V.bl (aH.getD 4 false),V.bl (aH.getD 5 false),V.bl (aH.getD 6 false),V.bl (aH.getD 7 false)])):=e1.trans f1
 generalize upd H1 m1 (.lst [V.bl (aH.getD 4 false),V.bl (aH.getD 5 false),V.bl (aH.getD 6 false),V.bl (aH.getD 7 false)])=J1 at f1 QI Gg
 generalize mh:B1++[V.bl (aH.getD 4 false),V.bl (aH.getD 5 false),V.bl (aH.getD 6 false),V.bl (aH.getD 7 false)]=B2
 have QJ:B2.length=8:=by rw [<- mh,ir,QH];rfl
 have e2:ai H (upd J1 l2 (.lst B2)):=QI.trans (ai.new Gg)
 have g2:upd J1 l2 (.lst B2) l2=some (.lst B2):=bT
 have x2:=e2 _ _ he
 show cq _ _ _ [some (.ref x),some (.ref l2)] (upd J1 l2 (.lst B2))
 generalize upd J1 l2 (.lst B2)=H2 at e2 g2 x2
 refine ⟨_,rfl,_,rfl,x,_,_,_,d,rfl,x2,X.a,(fun u r=>by cases r;exact X.r8),_,rfl,x,_,_,_,d,rfl,x2,X.a,(fun u r=>by cases r;exact X.r9),_,rfl,x,_,_,_,d,rfl,x2,X.a,(fun u r=>by cases r;exact X.nz),_,rfl,x,_,_,_,d,rfl,x2,X.a,(fun u r=>by cases r;exact X.r11),by show 4<=sizeLine;decide,fun m2 kK=>?_⟩
 have f2:ai H2 (upd H2 m2 (.lst [V.bl (aH.getD 8 false),V.bl (aH.getD 9 false),V.bl (aH.getD 10 false),V.bl (aH.getD 11 false)])):=ai.new kK
 refine ⟨l2,m2,_,_,rfl,rfl,aF.of (f2 _ _ g2),aF.of bT,by rw [QJ];show 12<=sizeLine;decide,fun l3 QK=>?_⟩
 have QL:ai H (upd H2 m2 (.lst [V.bl (aH.getD 8 false),V.bl (aH.getD 9 false),V.bl (aH.getD 10 false),V.bl (aH.getD 11 false)])):=e2.trans f2
 generalize upd H2 m2 (.lst [V.bl (aH.getD 8 false),V.bl (aH.getD 9 false),V.bl (aH.getD 10 false),V.bl (aH.getD 11 false)])=J2 at f2 QL QK
 generalize QM:B2++[V.bl (aH.getD 8 false),V.bl (aH.getD 9 false),V.bl (aH.getD 10 false),V.bl (aH.getD 11 false)]=B3
 have QN:B3.length=12:=by rw [<- QM,ir,QJ];rfl
 have e3:ai H (upd J2 l3 (.lst B3)):=QL.trans (ai.new QK)
 have g3:upd J2 l3 (.lst B3) l3=some (.lst B3):=bT
 have x3:=e3 _ _ he
 show cq _ _ _ [some (.ref x),some (.ref l3)] (upd J2 l3 (.lst B3))
 generalize upd J2 l3 (.lst B3)=H3 at e3 g3 x3
 refine ⟨_,rfl,_,rfl,x,_,_,_,d,rfl,x3,X.a,(fun u r=>by cases r;exact X.r12),_,rfl,x,_,_,_,d,rfl,x3,X.a,(fun u r=>by cases r;exact X.v),by show 2<=sizeLine;decide,fun m3 hm3=>?_⟩
 have f3:ai H3 (upd H3 m3 (.lst [V.bl (aH.getD 12 false),V.bl true])):=ai.new hm3
 refine ⟨l3,m3,_,_,rfl,rfl,aF.of (f3 _ _ g3),aF.of bT,by rw [QN];show 14<=sizeLine;decide,fun l4 QO=>?_⟩
 have QP:ai H (upd H3 m3 (.lst [V.bl (aH.getD 12 false),V.bl true])):=e3.trans f3
 generalize upd H3 m3 (.lst [V.bl (aH.getD 12 false),V.bl true])=J3 at f3 QP QO
 generalize QQ:B3++[V.bl (aH.getD 12 false),V.bl true]=B4
 have zb4:B4.length=14:=by rw [<- QQ,ir,QN];rfl
 have e4:ai H (upd J3 l4 (.lst B4)):=QP.trans (ai.new QO)
 have g4:upd J3 l4 (.lst B4) l4=some (.lst B4):=bT
 have x4:=e4 _ _ he
 dsimp only [dZ,List.set,m8]
 show qU _ _ _ _ _ _ [some (.ref x),some (.ref l4)] (upd J3 l4 (.lst B4)) _
 generalize upd J3 l4 (.lst B4)=H4 at e4 g4 x4
 have hB:B4=(qJ aH).map V.bl:=by rw [<- QQ,<- QM,<- mh,<- md];rfl
 subst hB
 generalize hfl:qJ aH=fl at *
 have flg:∀ i:Nat,i<14->cC (fl.map V.bl) (0+(i:Int))=some (.bl (fl.getD i false)):=fun i hi=>by rw [<- hfl];exact Vr aH i hi
 refine ⟨14,rfl,by decide,by decide,fun acc gO=>?_⟩
 have na:x ≠ acc:=fun z=>by rw [z,gO] at x4;cases x4
 have nl:l4 ≠ acc:=fun z=>by rw [z,gO] at g4;cases g4
 refine ⟨fun i m ys ak H2=>i+m=14/\ys=(mi fl i).map V.int/\(∃ o,ak=[o,some (.ref l4)])/\H2=upd H4 acc (.lst ys),⟨14,rfl,rfl,⟨none,rfl⟩,rfl⟩,?_⟩
 rintro i m ys ak H2 ⟨hi,rfl,⟨o,rfl⟩,rfl⟩
 have il:=Wi fl i
 have big : 1000<sizeLine:=by decide
 refine ⟨bT,by rw [aa];omega,?_⟩
 by_cases h14:i=14
 ·subst h14
  refine .inl ⟨⟨ee _,_,_,by rw [ay na];exact x4⟩,q acc _ (e4.trans (ai.new gO)) (e4.free gO) ?_⟩
  rw [bT]
 ·refine .inr ⟨by show i<14;omega,fun ys ak H2=>ys=(mi fl (i+1)).map V.int/\(∃ o,ak=[o,some (.ref l4)])/\H2=upd H4 acc (.lst ys),fun zs bB H3 z=>⟨m-1,by omega,by omega,z⟩,?_⟩
  rintro v H3 ⟨rfl,rfl⟩
  have lt:i<14:=by omega
  refine ⟨_,rfl,_,rfl,l4,_,_,_,rfl,rfl,aF.of (by rw [ay nl];exact g4),flg i lt,_,rfl,?_⟩
  have es:=Vq fl i
  cases hb:fl.getD i false with
  |true =>
   rw [hb,Cn rfl] at es
   refine jX ⟨_,rfl,bT,by rw [es,Cf];rfl,⟨_,rfl⟩,?_⟩
   rw [DE]
  |false =>
   rw [hb,AM (by decide)] at es
   exact nc ⟨by rw [es],⟨_,rfl⟩,rfl⟩
end
section
variable {P:Program}{w:World}{K:Frag}{mg:Str->Option Value}{base:Heap}
structure Hj (P:Program) (w:World) (K:Frag) (mg:Str->Option Value) (base:Heap) (k:Nat) (x:Str) (f:Addr) (fd:FuncData) (ps:List Str) (sp:Addr->Sp):Prop where
 ok:xU P w K mg base k f fd ps sp
 tP:mg x=some (.ref f)
 kp:keepIn K (.ref f)=true
 bd:Binds K fd ps []
def OA:Stmt->List Stmt
 | .Try _ (.ExceptHandler _ _ b _::_) _ _ _=>b
 |_=>[]
def nameOf (c:cm):eD->Addr
 | .great=>c.mG
 | .oB=>c.nZ
 | .number=>c.nR
 | .thing _=>c.i3
 | .twice _=>c.iS
 | .text=>c.jS
 | .name=>c.lH
 | .double=>c.mQ
 | .made=>c.mG
def EH:eD->List Bool
 | .great=>an 1
 | .oB=>an 2
 | .number=>an 5
 | .thing _=>an 3
 | .twice _=>an 4
 | .text=>an 6
 | .name=>an 9
 | .double=>an 10
 | .made=>an 1
def t4 (c:cm):eD->Hp->Addr->Prop
 | .great=>fun H x=>H x=some (dO x c.mG none)
 | .oB=>fun H x=>H x=some (dO x c.nZ none)
 | .number=>fun H x=>H x=some (dO x c.nR none)
 | .text=>fun H x=>H x=some (dO x c.jS none)
 | .name=>fun H x=>H x=some (dO x c.lH none)
 | .double=>fun H x=>H x=some (dO x c.mQ none)
 | .thing j=>fun H x=>∃ dx,H x=some (dO x c.i3 (some dx))/\H dx=some (.xd [("asker",.int j)])
 | .twice j=>fun H x=>∃ dx,H x=some (dO x c.iS (some dx))/\H dx=some (.xd [("asker",.int j)])
 | .made=>fun _ _=>False
theorem Wj {c:cm}{ω:eD}{Ξ:jZ}(h:qI c ω=some Ξ):xV Ξ (nameOf c ω) (t4 c ω):=by
 cases ω with
 |thing j=>cases h;exact LY
 |twice j=>cases h;exact LY
 |made=>cases h
 |_=>cases h;exact V8
theorem EI {c:cm}{ft fw:Addr}(U:iT K mg c ft fw)(ω:eD):lL K mg c (nameOf c ω) (EH ω):=by
 cases ω with
 |great=>exact U.JH
 |oB=>exact U.UG
 |number=>exact U.TC
 |thing j=>exact U.UH
 |twice j=>exact U.Mb
 |text=>exact U.Vj
 |name=>exact U.Vk
 |double=>exact U.Vl
 |made=>exact U.JH
theorem OB {c:cm}{ω:eD}{H:Hp}{x:Addr}(h:t4 c ω H x):∃ d,H x=some (dO x (nameOf c ω) d):=by
 cases ω with
 |thing j=>obtain ⟨dx,h,_⟩:=h;exact ⟨_,h⟩
 |twice j=>obtain ⟨dx,h,_⟩:=h;exact ⟨_,h⟩
 |made=>exact h.elim
 |_=>exact ⟨_,h⟩
theorem Kf (z:Str):(signs z).length=z.length:=by unfold signs;rw [aa,AN];rfl
def eV (w:Str):Bool:=!decide (V.str w=V.str "")&&(decide ((w.length:Int)<=8)&&((signs w).map fun s=>jC s mK).all id)
def yk (w:Str):Bool:=decide (V.str w=V.str "") || decide ((60:Int)<(w.length:Int))
def yl (w:Str):Bool:=Txt.startswith w "0" && !decide (V.str w=V.str "0")
def ym (w:Str):Bool:=if yk w then false else if yl w then false else ((signs w).map fun s=>jC s sx).all id
def ji (w:Str):Bool:=decide ((w.length:Int)<=9)&&ym w
abbrev rK:Stmt:=top 18
theorem Sj:cH ["text"] ["text"] (aD rK):=eA
def ML (dd:List Dv)(t:Tr):Prop:=∃ x:Str,x.length<=1000/\dd=[ds x]/\t=tb (ym x)
theorem Sl {f:Addr}{fd:FuncData}{k:Nat}(F:cE K "is_figures" "is_figures" rK f fd)(T:Txt mg):bc P w K mg base aG (k+1) f fd ["text"] (spT K ML):=by
 refine fQ F.d Sj (fun dd t h=>by obtain ⟨_,_,rfl,_⟩:=h;rfl) fun dd t h=>?_
 obtain ⟨x,hx,rfl,rfl⟩:=h
 refine ⟨_,.inl rfl,?_⟩
 have big : 1000<sizeLine:=by decide
 obtain ⟨tk,gm⟩:=T.ux
 obtain ⟨yT,kS⟩:=T.uh
 unfold ym
 cases ha:yk x with
 |true=>exact uM (oq (Et.s (Ew.et (iA (MC (u:=.str x) (v:=.str "") (ae 0 rfl) bJ rfl) fun _=>iP (i9 (xn T.aR (ae 0 rfl) (by omega)) (gh (v:=.int 60) kS ⟨_,rfl⟩ rfl))))) ha (aS (de (Ev.s EC))))
 |false =>
  refine aE (cA (Et.s (Ew.et (iA (MC (u:=.str x) (v:=.str "") (ae 0 rfl) bJ rfl) fun _=>iP (i9 (xn T.aR (ae 0 rfl) (by omega)) (gh (v:=.int 60) kS ⟨_,rfl⟩ rfl))))) ha) ?_
  cases hc:yl x with
  |true=>exact uM (oq (Et.s (Ew.et (lF (dY (J6 (ae 0 rfl) bJ)) fun _=>mJ (sM (u:=.str x) (v:=.str "0") (ae 0 rfl) bJ rfl)))) hc (aS (de (Ev.s EC))))
  |false =>
   refine aE (cA (Et.s (Ew.et (lF (dY (J6 (ae 0 rfl) bJ)) fun _=>mJ (sM (u:=.str x) (v:=.str "0") (ae 0 rfl) bJ rfl)))) hc) ?_
   exact aS (de (Ev.s (km (bs:=(signs x).map fun s=>jC s sx) T.ks (dh (own:=["sign"]) (fr:=[]) (signs x) ds (fun s=>tb (jC s sx)) (fun i=>bQ) (L8 (ae 0 rfl)) (aZ 0 (fun _=>by show List.Nodup (["sign"]:List Str);decide)) (by decide) (by rw [Kf];omega) (fun s hs=>⟨_,rfl,by exact MG (ae 0 rfl) (gh (v:=.str sx) gm ⟨_,rfl⟩ rfl) (by with_unfolding_all rfl)⟩) (fun dd=>by cases dd<;>rfl)) (fj _ _))))
abbrev se:Stmt:=top 29
theorem TF:cH ["word"] ["word"] (aD se):=eA
def EJ (dd:List Dv)(t:Tr):Prop:=∃ z:Str,z.length<=1000/\dd=[ds z]/\t=tb (eV z)
theorem TH {f:Addr}{fd:FuncData}{k:Nat}(F:cE K "is_name" "is_name" se f fd)(T:Txt mg):bc P w K mg base aG (k+1) f fd ["word"] (spT K EJ):=by
 refine fQ F.d TF (fun dd t h=>by obtain ⟨_,_,rfl,_⟩:=h;rfl) fun dd t h=>?_
 obtain ⟨z,hz,rfl,rfl⟩:=h
 refine ⟨_,.inl rfl,?_⟩
 have big : 1000<sizeLine:=by decide
 obtain ⟨tk,gm⟩:=T.uy
 obtain ⟨yT,kS⟩:=T.ui
 exact aS (de (Ev.s (Ec (Xo (u:=.str z) (v:=.str "") (ae 0 rfl) bJ rfl) fun _=>Ec (Ng (xn T.aR (ae 0 rfl) (by omega)) (gh (v:=.int 8) kS ⟨_,rfl⟩ rfl)) fun _=>mO (km (bs:=(signs z).map fun s=>jC s mK) T.ks (dh (own:=["sign"]) (fr:=[]) (signs z) ds (fun s=>tb (jC s mK)) (fun i=>bQ) (L8 (ae 0 rfl)) (aZ 0 (fun _=>by show List.Nodup (["sign"]:List Str);decide)) (by decide) (by rw [Kf];omega) (fun s hs=>⟨_,rfl,by exact MG (ae 0 rfl) (gh (v:=.str mK) gm ⟨_,rfl⟩ rfl) (by with_unfolding_all rfl)⟩) (fun dd=>by cases dd<;>rfl)) (fj _ _)))))
abbrev rT:Stmt:=top 30
theorem S9:cH ["word"] ["word"] (aD rT):=eA
def Eg (dd:List Dv)(t:Tr):Prop:=∃ z:Str,z.length<=1000/\dd=[ds z]/\t=tb (ji z)
theorem Ta {f f1:Addr}{fd cW:FuncData}{k:Nat}(F:cE K "is_count" "is_count" rT f fd)(T:Txt mg)(SV:Kn P w K mg base aG (k+1) "is_figures" f1 cW ["text"] (spT K ML)):bc P w K mg base aG (k+2) f fd ["word"] (spT K Eg):=by
 refine fQ F.d S9 (fun dd t h=>by obtain ⟨_,_,rfl,_⟩:=h;rfl) fun dd t h=>?_
 obtain ⟨x,hx,rfl,rfl⟩:=h
 refine ⟨_,.inl rfl,?_⟩
 have big : 1000<sizeLine:=by decide
 obtain ⟨yT,kS⟩:=T.ud
 exact aS (de (Ev.s (Ec (Ng (xn T.aR (ae 0 rfl) (by omega)) (gh (v:=.int 9) kS ⟨_,rfl⟩ rfl)) fun _=>mO (bZ SV (ee _) (ah (ae 0 rfl) ao) ⟨x,hx,rfl,rfl⟩))))
theorem gD {α:Type}(a : α)(l:List α):cC (a::l) 0=some a:=gx (show (a::l)[0]?=some a from rfl)
theorem lu {α:Type}(l:List α)(n:Nat):cutD l (some (n:Int)) none=l.drop n:=by
 unfold cutD
 rw [HT.wY]
 show (l.drop (min n l.length)).take (l.length-min n l.length)=_
 rcases Nat.le_total n l.length with h | h
 ·rw [acU h,Lm (by rw [EO];exact ee _)]
 ·rw [Nat.min_eq_right h,acE,acW,List.drop_eq_nil_of_le h]
structure gw (W:List (List Str)):Prop where
 ln:W.length<=60
 ne:∀ l ∈ W,l ≠ []
 ll:∀ l ∈ W,l.length<=60
 wl:∀ l ∈ W,∀ x ∈ l,x.length<=70
 sp:∀ l ∈ W,∀ x ∈ l,32 ∉ x.cps.toList
 nl:∀ l ∈ W,∀ x ∈ l,10 ∉ x.cps.toList
def kA (l:List Str):Bool:=!decide (V.str (l.headD "")=V.str "things") || !decide ((((aL 1 l).map ds).length:Int)=(((aL 2 l).map ds).length:Int))
def jj (l:List Str):Bool:=!((aL 1 l).map eV).all id || !((aL 2 l).map ji).all id
def ib (l:List Str):Bool:=!(l.map eV).all id
abbrev gb (ls:List (List Str)):Dv:=.lst (ls.map ag)
theorem sC {α:Type}{n:Nat}{l:List α}{x : α}(h:x ∈ aL n l):x ∈ l:=by
 unfold aL at h
 obtain ⟨k,_,hk⟩:=ID.mp h
 exact ma hk
abbrev pE:Stmt:=top 31
theorem nO:cH ["lines", "names", "counts", "words"] ["lines"] (aD pE):=eA
def EK (dd:List Dv)(t:Tr):Prop:=∃ (a:Str) (l:List Str) (R:List (List Str)),gw ((a::l)::R)/\kA (a::l)=false/\jj (a::l)=false/\(∀ x ∈ R,ib x=false)/\dd=[gb ((a::l)::R)]/\t=tn
def MM (c:cm)(dd:List Dv)(Ξ:jZ):Prop:=∃ (a:Str) (l:List Str) (R:List (List Str)),gw ((a::l)::R)/\(kA (a::l)=true\/jj (a::l)=true\/∃ x ∈ R,ib x=true)/\dd=[gb ((a::l)::R)]/\Ξ=fun G H E=>gX G H c.jS E
theorem xY (n:Nat)(l:List Str):er (.ow ((aL n (l.map ds)).map .fz))=ag (aL n l):=by rw [gk,uR]
theorem R3 {f f1 f2:Addr}{fd cW fd2:FuncData}{k:Nat}(F:cE K "check_words" "check_words" pE f fd)(T:Txt mg)(pN:Kn P w K mg base aG (k+2) "is_name" f1 cW ["word"] (spT K EJ))(wD:Kn P w K mg base aG (k+2) "is_count" f2 fd2 ["word"] (spT K Eg)):bc P w K mg base aG (k+3) f fd ["lines"] (spT K EK):=by
 refine fQ F.d nO (fun dd t h=>by obtain ⟨_,_,_,_,_,_,_,rfl,_⟩:=h;rfl) fun dd t h=>?_
 obtain ⟨a,l,R,ok,hA,hB,hL,rfl,rfl⟩:=h
 have big : 1000<sizeLine:=by decide
 have l0:=ok.ll _ (.head _)
 have w0:=ok.wl _ (.head _)
 have n1:=uP 1 (a::l)
 have n2:=uP 2 (a::l)
 obtain ⟨tk,gm⟩:=T.rJ
 refine ⟨_,.inr ⟨rfl,[some (.fz (gb ((a::l)::R))),some (.fz (ag (aL 1 (a::l)))),some (.fz (ag (aL 2 (a::l)))),none],rfl⟩,?_⟩
 refine aE (bS 1 (Ev.s (Ev.as (d:=ag (aL 1 (a::l))) (ot (n:=1) (bA (d:=ag (a::l)) (ae 0 rfl) af rfl (gD _ _)) rfl af af) (xY 1 _))) (fun _=>nO.nd)) ?_
 refine aE (bS 2 (Ev.s (Ev.as (d:=ag (aL 2 (a::l))) (ot (n:=2) (bA (d:=ag (a::l)) (ae 0 rfl) af rfl (gD _ _)) rfl af af) (xY 2 _))) (fun _=>nO.nd)) ?_
 refine aE (cA (Et.s (Ew.et (iA (sM (u:=.str a) (v:=.str "things") (bA (d:=ds a) (bA (d:=ag (a::l)) (ae 0 rfl) af rfl (gD _ _)) af rfl (gD _ _)) (gh (v:=.str "things") gm ⟨_,rfl⟩ rfl) rfl) fun _=>iP (oA (bK T.aR (ae 1 rfl) (.inl rfl)) (bK T.aR (ae 2 rfl) (.inl rfl)))))) hA) ?_
 refine aE (cA (Et.s (Ew.et (iA (i5 (dY (km (bs:=(aL 1 (a::l)).map eV) T.ks (dh (own:=["word"]) (fr:=[]) (aL 1 (a::l)) ds (fun z=>tb (eV z)) (fun i=>bQ) (bN (ae 1 rfl) rfl) (aZ 0 (fun _=>by show List.Nodup (["word"]:List Str);decide)) (by decide) (by omega) (fun x hx=>⟨_,rfl,by exact bZ pN (ee _) (ah (ae 0 rfl) ao) ⟨x,by have:=w0 x (sC hx);omega,rfl,rfl⟩⟩) (fun dd=>by cases dd<;>rfl)) (fj _ _)))) fun _=>iP (i5 (dY (km (bs:=(aL 2 (a::l)).map ji) T.ks (dh (own:=["word"]) (fr:=[]) (aL 2 (a::l)) ds (fun z=>tb (ji z)) (fun i=>bQ) (bN (ae 2 rfl) rfl) (aZ 0 (fun _=>by show List.Nodup (["word"]:List Str);decide)) (by decide) (by omega) (fun x hx=>⟨_,rfl,by exact bZ wD (ee _) (ah (ae 0 rfl) ao) ⟨x,by have:=w0 x (sC hx);omega,rfl,rfl⟩⟩) (fun dd=>by cases dd<;>rfl)) (fj _ _))))))) hB) ?_
 have e3:cutD (((a::l)::R).map ag) (some 1) none=R.map ag:=lu _ 1
 refine aS (Rn.to (kl (aX.s (aX.to (bN (fM (ae 0 rfl) rfl (eS af) gi) (gk _)) e3)) (aZ 3 (fun _=>nO.nd)) (fun _=>[some (.fz (gb ((a::l)::R))),some (.fz (ag (aL 1 (a::l)))),some (.fz (ag (aL 2 (a::l)))),none]) rfl (fun _=>rfl) (fun j d hd=>?_)) rfl)
 obtain ⟨r,hr,rfl⟩:=iN hd
 have rm:=ma hr
 have rl:=ok.ll r (.tail _ rm)
 exact ⟨_,_,rfl,aS (cA (Et.s (i5 (dY (km (bs:=r.map eV) T.ks (dh (own:=["word"]) (fr:=[]) r ds (fun z=>tb (eV z)) (fun i=>bQ) (bN (ae 3 rfl) rfl) (aZ 0 (fun _=>by show List.Nodup (["word"]:List Str);decide)) (by decide) (by omega) (fun x hx=>⟨_,rfl,by exact bZ pN (ee _) (ah (ae 0 rfl) ao) ⟨x,by have:=ok.wl r (.tail _ rm) x hx;omega,rfl,rfl⟩⟩) (fun dd=>by cases dd<;>rfl)) (fj _ _))))) (hL r rm)),[3],rfl⟩
theorem UI {R:List (List Str)}(h:∃ x ∈ R,ib x=true):∃ (m:Nat) (r:List Str),R[m]?=some r/\ib r=true/\∀ n r',n<m->R[n]?=some r'->ib r'=false:=by
 cases hf:R.findIdx? ib with
 |none =>
  obtain ⟨x,hx,hb⟩:=h
  have:=NH.mp hf x hx
  rw [hb] at this
  cases this
 |some m =>
  obtain ⟨hl,h1,h2⟩:=Of.mp hf
  refine ⟨m,R[m],ar hl,h1,fun n r' hn hr=>?_⟩
  obtain ⟨QD,rfl⟩:=gz.mp hr
  simpa using h2 n hn
theorem RX {f f1 f2 ft fw:Addr}{fd cW fd2:FuncData}{k:Nat}{c:cm}(F:cE K "check_words" "check_words" pE f fd)(T:Txt mg)(U:iT K mg c ft fw)(pN:Kn P w K mg base aG (k+2) "is_name" f1 cW ["word"] (spT K EJ))(wD:Kn P w K mg base aG (k+2) "is_count" f2 fd2 ["word"] (spT K Eg)):bc P w K mg base (bq P w) (k+3) f fd ["lines"] (dP K (MM c)):=by
 refine pY F.d nO (fun dd t h=>by obtain ⟨_,_,_,_,_,rfl,_⟩:=h;rfl) fun dd t h=>?_
 obtain ⟨a,l,R,ok,Fs,rfl,rfl⟩:=h
 have big : 1000<sizeLine:=by decide
 have l0:=ok.ll _ (.head _)
 have w0:=ok.wl _ (.head _)
 have n1:=uP 1 (a::l)
 have n2:=uP 2 (a::l)
 obtain ⟨tk,gm⟩:=T.rJ
 refine fN (bS 1 (Ev.s (Ev.as (d:=ag (aL 1 (a::l))) (ot (n:=1) (bA (d:=ag (a::l)) (ae 0 rfl) af rfl (gD _ _)) rfl af af) (xY 1 _))) (fun _=>nO.nd)) ?_
 refine fN (bS 2 (Ev.s (Ev.as (d:=ag (aL 2 (a::l))) (ot (n:=2) (bA (d:=ag (a::l)) (ae 0 rfl) af rfl (gD _ _)) rfl af af) (xY 2 _))) (fun _=>nO.nd)) ?_
 cases hA:kA (a::l) with
 |true=>exact kn (cG.to (q:=true) (Et.s (Ew.et (iA (sM (u:=.str a) (v:=.str "things") (bA (d:=ds a) (bA (d:=ag (a::l)) (ae 0 rfl) af rfl (gD _ _)) af rfl (gD _ _)) (gh (v:=.str "things") gm ⟨_,rfl⟩ rfl) rfl) fun _=>iP (oA (bK T.aR (ae 1 rfl) (.inl rfl)) (bK T.aR (ae 2 rfl) (.inl rfl)))))) hA) (kc.g (mE U.mH U.nS))
 |false =>
 refine fN (cA (Et.s (Ew.et (iA (sM (u:=.str a) (v:=.str "things") (bA (d:=ds a) (bA (d:=ag (a::l)) (ae 0 rfl) af rfl (gD _ _)) af rfl (gD _ _)) (gh (v:=.str "things") gm ⟨_,rfl⟩ rfl) rfl) fun _=>iP (oA (bK T.aR (ae 1 rfl) (.inl rfl)) (bK T.aR (ae 2 rfl) (.inl rfl)))))) hA) ?_
 cases hB:jj (a::l) with
 |true=>exact kn (cG.to (q:=true) (Et.s (Ew.et (iA (i5 (dY (km (bs:=(aL 1 (a::l)).map eV) T.ks (dh (own:=["word"]) (fr:=[]) (aL 1 (a::l)) ds (fun z=>tb (eV z)) (fun i=>bQ) (bN (ae 1 rfl) rfl) (aZ 0 (fun _=>by show List.Nodup (["word"]:List Str);decide)) (by decide) (by omega) (fun x hx=>⟨_,rfl,by exact bZ pN (ee _) (ah (ae 0 rfl) ao) ⟨x,by have:=w0 x (sC hx);omega,rfl,rfl⟩⟩) (fun dd=>by cases dd<;>rfl)) (fj _ _)))) fun _=>iP (i5 (dY (km (bs:=(aL 2 (a::l)).map ji) T.ks (dh (own:=["word"]) (fr:=[]) (aL 2 (a::l)) ds (fun z=>tb (ji z)) (fun i=>bQ) (bN (ae 2 rfl) rfl) (aZ 0 (fun _=>by show List.Nodup (["word"]:List Str);decide)) (by decide) (by omega) (fun x hx=>⟨_,rfl,by exact bZ wD (ee _) (ah (ae 0 rfl) ao) ⟨x,by have:=w0 x (sC hx);omega,rfl,rfl⟩⟩) (fun dd=>by cases dd<;>rfl)) (fj _ _))))))) hB) (kc.g (mE U.mH U.nS))
 |false =>
 refine fN (ρ1:=[some (.fz (gb ((a::l)::R))),some (.fz (ag (aL 1 (a::l)))),some (.fz (ag (aL 2 (a::l)))),none]) (cA (Et.s (Ew.et (iA (i5 (dY (km (bs:=(aL 1 (a::l)).map eV) T.ks (dh (own:=["word"]) (fr:=[]) (aL 1 (a::l)) ds (fun z=>tb (eV z)) (fun i=>bQ) (bN (ae 1 rfl) rfl) (aZ 0 (fun _=>by show List.Nodup (["word"]:List Str);decide)) (by decide) (by omega) (fun x hx=>⟨_,rfl,by exact bZ pN (ee _) (ah (ae 0 rfl) ao) ⟨x,by have:=w0 x (sC hx);omega,rfl,rfl⟩⟩) (fun dd=>by cases dd<;>rfl)) (fj _ _)))) fun _=>iP (i5 (dY (km (bs:=(aL 2 (a::l)).map ji) T.ks (dh (own:=["word"]) (fr:=[]) (aL 2 (a::l)) ds (fun z=>tb (ji z)) (fun i=>bQ) (bN (ae 2 rfl) rfl) (aZ 0 (fun _=>by show List.Nodup (["word"]:List Str);decide)) (by decide) (by omega) (fun x hx=>⟨_,rfl,by exact bZ wD (ee _) (ah (ae 0 rfl) ao) ⟨x,by have:=w0 x (sC hx);omega,rfl,rfl⟩⟩) (fun dd=>by cases dd<;>rfl)) (fj _ _))))))) hB) ?_
 have hR:∃ x ∈ R,ib x=true:=by
  rcases Fs with h | h | h
  ·rw [hA] at h;cases h
  ·rw [hB] at h;cases h
  ·exact h
 obtain ⟨m,r,hm,hb,Fu⟩:=UI hR
 have e3:cutD (((a::l)::R).map ag) (some 1) none=R.map ag:=lu _ 1
 refine DP (aX.s (aX.to (bN (fM (ae 0 rfl) rfl (eS af) gi) (gk _)) e3)) (aZ 3 (fun _=>nO.nd)) (fun _=>[some (.fz (gb ((a::l)::R))),some (.fz (ag (aL 1 (a::l)))),some (.fz (ag (aL 2 (a::l)))),none]) m rfl (fun _=>rfl) (fun i d hi hd=>?_) ⟨ag r,_,(by rw [i4,hm];rfl),rfl,kn (cG.to (q:=true) (Et.s (i5 (dY (km (bs:=r.map eV) T.ks (dh (own:=["word"]) (fr:=[]) r ds (fun z=>tb (eV z)) (fun i=>bQ) (bN (ae 3 rfl) rfl) (aZ 0 (fun _=>by show List.Nodup (["word"]:List Str);decide)) (by decide) (by have:=ok.ll r (.tail _ (ma hm));omega) (fun x hx=>⟨_,rfl,by exact bZ pN (ee _) (ah (ae 0 rfl) ao) ⟨x,by have:=ok.wl r (.tail _ (ma hm)) x hx;omega,rfl,rfl⟩⟩) (fun dd=>by cases dd<;>rfl)) (fj _ _))))) hb) (kc.g (mE U.mH U.nS))⟩ pX
 obtain ⟨r',tZ,rfl⟩:=iN hd
 have rm:=ma tZ
 exact ⟨_,_,rfl,aS (cA (Et.s (i5 (dY (km (bs:=r'.map eV) T.ks (dh (own:=["word"]) (fr:=[]) r' ds (fun z=>tb (eV z)) (fun i=>bQ) (bN (ae 3 rfl) rfl) (aZ 0 (fun _=>by show List.Nodup (["word"]:List Str);decide)) (by decide) (by have:=ok.ll r' (.tail _ rm);omega) (fun x hx=>⟨_,rfl,by exact bZ pN (ee _) (ah (ae 0 rfl) ao) ⟨x,by have:=ok.wl r' (.tail _ rm) x hx;omega,rfl,rfl⟩⟩) (fun dd=>by cases dd<;>rfl)) (fj _ _))))) (Fu i r' hi tZ)),[3],rfl⟩
end
section
variable {P:Program}{w:World}{K:Frag}{mg:Str->Option Value}{base:Heap}
theorem xE {x y:Str}(h:x ≠ y):decide (V.str x=V.str y)=false:=uu fun z=>h (V.str.inj z)
theorem Kg {z y:Str}(h:∀ c ∈ z.cps.toList,jC (one c) y=true):((signs z).map fun s=>jC s y).all id=true:=by
 rw [Pf]
 intro b hb
 obtain ⟨s,hs,rfl⟩:=zd.mp hb
 obtain ⟨c,hc,rfl⟩:=zd.mp hs
 exact h c hc
theorem KO {w:Str}(h:Nm w):eV w=true:=by
 have:=h.l8
 unfold eV
 rw [xE h.ne',zw (by omega),Kg fun c hc=>Xm (h.ch c hc)];rfl
theorem TJ {x:Str}{c:Nat}(h:Txt.startswith x ⟨#[c]⟩=true):x.cps.toList[0]?=some c:=by
 unfold Txt.startswith at h
 rw [DD,Sm] at h
 exact (acb x c 0).mp h
theorem uH {x:Int}(h : 0<=x):(aO x).cps.toList=Tx.D x.toNat:=by rw [Wa h,Tx.Yi]
theorem sq {x:Int}(h : 0<=x)(h9:x<1000000000) : 1<=(aO x).length/\(aO x).length<=9:=by
 have e:=congrArg List.length (uH h)
 rw [AN] at e
 have e:(aO x).length=(Tx.D x.toNat).length:=e
 have l1:=(Tx.Yh (n:=x.toNat) (k:=9) (by decide)).mpr (by omega)
 have l0:(Tx.D x.toNat).length ≠ 0:=fun z=>Tx.Ot x.toNat (ab0.mp z)
 omega
theorem Wk {x:Int}(h : 0<=x)(h9:x<1000000000):ji (aO x)=true:=by
 obtain ⟨l1,l9⟩:=sq h h9
 have ne:aO x ≠ "" := fun z=>by rw [z] at l1;exact absurd l1 (by decide)
 unfold ji ym
 have hA:yk (aO x)=false:=by
  unfold yk
  rw [xE ne,uu (by omega)];rfl
 have hC:yl (aO x)=false:=by
  unfold yl
  by_cases h0:x=0
  ·subst h0
   rw [show aO 0=(Str.ofString "0") from rfl,zw rfl]
   simp
  ·cases hs:Txt.startswith (aO x) "0" with
   |false=>rfl
   |true =>
    have hs:=TJ (show Txt.startswith (aO x) ⟨#[48]⟩=true by rw [show (⟨#[48]⟩:Str) = "0" by decide +kernel];exact hs)
    rw [uH h] at hs
    obtain ⟨c,r,e,hc⟩:=Tx.Xj (n:=x.toNat) (by omega)
    rw [e] at hs
    exact absurd (AE hs) hc
 rw [hA,hC,zw (by omega),Kg fun c hc=>Xn (Tx.EF (by rw [<- uH h];exact hc))]
 rfl
theorem uI {x:Int}(h : 0<=x)(h9:x<1000000000):intText? (aO x)=some x:=by
 have:=sq h h9
 rw [Tx.Yk (uH h) (by omega),show ((x.toNat:Nat):Int)=x by omega]
theorem UJ {x:Int}(h : 0<=x){d:Nat}(hd:d<48):d ∉ (aO x).cps.toList:=fun z=>by
 rw [uH h] at z
 have:=Tx.EF z
 omega
structure Cw (ts:List Str) (cs:LI) (as:List Str) (os:List (List Str)):Prop where
 tl:ts.length=cs.length
 al:as.length=os.length
 jG:ts.length<=20
 gY:as.length<=20
 jF:∀ o ∈ os,o.length<=20
 tn:∀ t ∈ ts,Nm t
 an:∀ a ∈ as,Nm a
 on:∀ o ∈ os,∀ x ∈ o,Nm x
 cn:∀ x ∈ cs,0<=x/\x<1000000000
def gM (as:List Str)(os:List (List Str)):List (List Str):=List.zipWith List.cons as os
def aK (ts:List Str)(cs:LI)(as:List Str)(os:List (List Str)):List (List Str):=(("things" : Str)::bV ts cs)::gM as os
theorem KP {as:List Str}{os:List (List Str)}{l:List Str}(h:l ∈ gM as os):∃ a o,a ∈ as/\o ∈ os/\l=a::o:=by
 unfold gM at h
 obtain ⟨k,hk,e⟩:=acn.mp h
 rw [List.getElem_zipWith] at e
 exact ⟨_,_,TM _,TM _,e.symm⟩
theorem wU {ts:List Str}{cs:LI}{as:List Str}{os:List (List Str)}(h:Cw ts cs as os):(gM as os).length=os.length:=by
 unfold gM
 rw [acv,h.al,acB]
structure QR (w:Str):Prop where
 l:w.length<=9
 fr:∀ d,d<48->d ∉ w.cps.toList
theorem Cw.wd {ts:List Str}{cs:LI}{as:List Str}{os:List (List Str)}(h:Cw ts cs as os):∀ l ∈ aK ts cs as os,l ≠ []/\l.length<=41/\∀ x ∈ l,QR x:=fun l hl=>by
 have nm:∀ {x:Str},Nm x->QR x:=fun hx=>⟨by have:=hx.l8;omega,fun d hd=>hx.free (by omega)⟩
 have jG:=h.jG
 rcases gr.mp hl with rfl | hl
 ·refine ⟨by simp,by rw [mf,pairs_len h.tl];omega,fun x hx=>?_⟩
  rcases gr.mp hx with rfl | hx
  ·exact nm UD
  ·rcases Kc hx with z | ⟨y,hy,rfl⟩
   ·exact nm (h.tn x z)
   ·obtain ⟨y0,y9⟩:=h.cn y hy
    exact ⟨(sq y0 y9).2,fun d hd=>UJ y0 hd⟩
 ·obtain ⟨a,o,ha,ho,rfl⟩:=KP hl
  have:=h.jF o ho
  refine ⟨by simp,by rw [mf];omega,fun x hx=>?_⟩
  rcases gr.mp hx with rfl | hx
  ·exact nm (h.an _ ha)
  ·exact nm (h.on o ho x hx)
theorem Cw.ok {ts:List Str}{cs:LI}{as:List Str}{os:List (List Str)}(h:Cw ts cs as os):gw (aK ts cs as os):=by
 have gY:=h.gY
 have al:=h.al
 have w:=h.wd
 refine ⟨?_,fun l hl=>(w l hl).1,fun l hl=>by have:=(w l hl).2.1;omega,fun l hl x hx=>by have:=((w l hl).2.2 x hx).l;omega,fun l hl x hx=>((w l hl).2.2 x hx).fr 32 (by decide),fun l hl x hx=>((w l hl).2.2 x hx).fr 10 (by decide)⟩
 unfold aK
 rw [mf,wU h];omega
theorem all_map {l:List Str}{p:Str->Bool}(h:∀ x ∈ l,p x=true):(l.map p).all id=true:=by
 rw [Pf]
 intro b hb
 obtain ⟨x,hx,rfl⟩:=zd.mp hb
 exact h x hx
theorem Cw.gA {ts:List Str}{cs:LI}{as:List Str}{os:List (List Str)}(h:Cw ts cs as os):kA (("things" : Str)::bV ts cs)=false:=by
 unfold kA
 rw [wQ h.tl,xo h.tl,aa,aa,aa,h.tl,zw rfl,show decide (V.str ((("things" : Str)::bV ts cs).headD "")=V.str "things")=true from zw rfl];rfl
theorem Cw.gB {ts:List Str}{cs:LI}{as:List Str}{os:List (List Str)}(h:Cw ts cs as os):jj (("things" : Str)::bV ts cs)=false:=by
 unfold jj
 rw [wQ h.tl,xo h.tl,all_map fun x hx=>KO (h.tn x hx),all_map fun x hx=>by
  obtain ⟨y,hy,rfl⟩:=zd.mp hx
  exact Wk (h.cn y hy).1 (h.cn y hy).2];rfl
theorem Cw.gL {ts:List Str}{cs:LI}{as:List Str}{os:List (List Str)}(h:Cw ts cs as os):∀ l ∈ gM as os,ib l=false:=fun l hl=>by
 obtain ⟨a,o,ha,ho,rfl⟩:=KP hl
 unfold ib
 rw [all_map fun x hx=>KO ?_];rfl
 rcases gr.mp hx with rfl | hx
 ·exact h.an _ ha
 ·exact h.on o ho x hx
abbrev pC:Stmt:=top 32
theorem Jn:cH ["names"] ["names"] (aD pC):=eA
def Fv (dd:List Dv)(t:Tr):Prop:=∃ ws:List Str,ws.Nodup/\ws.length<100/\dd=[ag ws]/\t=tn
theorem RY {f:Addr}{fd:FuncData}{k:Nat}(F:cE K "check_double" "check_double" pC f fd)(T:Txt mg):bc P w K mg base aG (k+1) f fd ["names"] (spT K Fv):=by
 refine fQ F.d Jn (fun dd t h=>by obtain ⟨_,_,_,rfl,_⟩:=h;rfl) fun dd t h=>?_
 obtain ⟨ws,nd,hz,rfl,rfl⟩:=h
 refine ⟨_,.inr ⟨rfl,[some (.fz (ag ws))],rfl⟩,?_⟩
 refine aS (cA (Et.s (oA (Tw (ws:=ws) T.aR T.lK (ae 0 rfl) rfl nd (by omega)) (bK T.aR (ae 0 rfl) (.inl rfl)))) ?_)
 rw [aa]
 simp
def Nx (c:cm)(dd:List Dv)(Ξ:jZ):Prop:=∃ ws:List Str,¬ ws.Nodup/\ws.length<100/\dd=[ag ws]/\Ξ=fun G H E=>gX G H c.mQ E
theorem RR {f ft fw:Addr}{fd:FuncData}{k:Nat}{c:cm}(F:cE K "check_double" "check_double" pC f fd)(T:Txt mg)(U:iT K mg c ft fw):bc P w K mg base (bq P w) (k+1) f fd ["names"] (dP K (Nx c)):=by
 refine pY F.d Jn (fun dd t h=>by obtain ⟨_,_,_,rfl,_⟩:=h;rfl) fun dd t h=>?_
 obtain ⟨ws,nd,hz,rfl,rfl⟩:=h
 refine kn (cG.to (q:=true) (Et.s (oA (pJ (ws:=ws) T.aR T.lK (ae 0 rfl) rfl (by omega)) (bK T.aR (ae 0 rfl) (.inl rfl)))) ?_) (kc.g (mE U.so U.uG))
 rw [aa,uu];rfl
 intro z
 exact nd (Dk.mp (by omega))
def kd (ts:List Str)(w:Str):Nat:=ts.findIdx (·==w)
abbrev iK (ts:List Str)(w:Str):Int:=((kd ts w:Nat):Int)
theorem MN {ts:List Str}{w:Str}(h:w ∈ ts):kd ts w<ts.length:=List.findIdx_lt_length_of_exists ⟨w,h,GG.mpr rfl⟩
theorem xF {ts:List Str}{w:Str}(h:w ∈ ts):ts[kd ts w]?=some w:=by
 have hl:=MN h
 have:=List.findIdx_getElem (xs:=ts) (p:=(·==w)) (w:=hl)
 rw [ar hl]
 exact congrArg some (GG.mp this)
theorem Wl {ts:List Str}{w:Str}{i:Nat}{z:Str}(h:i<kd ts w)(hz:ts[i]?=some z):z ≠ w:=fun e=>by
 have:=List.not_of_lt_findIdx h
 obtain ⟨hl,e2⟩:=gz.mp hz
 rw [e2,e] at this
 simp at this
abbrev pG:Stmt:=top 33
theorem Jq:cH ["things", "words"] ["things", "words"] (aD pG):=eA
def Fx (dd:List Dv)(t:Tr):Prop:=∃ (ts:List Str) (o:List Str),o.length<=100/\(∀ x ∈ o,x ∈ ts)/\dd=[ag ts,ag o]/\t=cU (o.map (iK ts))
theorem Sn {f:Addr}{fd:FuncData}{k:Nat}(F:cE K "read_order" "read_order" pG f fd)(T:Txt mg):bc P w K mg base aG (k+1) f fd ["things", "words"] (spT K Fx):=by
 refine fQ F.d Jq (fun dd t h=>by obtain ⟨_,_,_,_,rfl,_⟩:=h;rfl) fun dd t h=>?_
 obtain ⟨ts,o,ol,mem,rfl,rfl⟩:=h
 refine ⟨_,.inl rfl,?_⟩
 have big : 1000<sizeLine:=by decide
 refine aE (cA (Et.s (dY (mP (bs:=o.map fun x=>!ts.contains x) T.mY (dh (own:=["word"]) (fr:=[0]) o ds (fun x=>tb (!ts.contains x)) (fun i=>bQ) (bN (ae 1 rfl) rfl) (aZ 0 (fun _=>by show List.Nodup (["word", "things"]:List Str);decide)) (by decide) (by omega) (fun x hx=>⟨_,rfl,by exact J8 (ws:=ts) (ae 0 rfl) (ae 1 rfl) rfl (by with_unfolding_all rfl)⟩) (fun dd=>by cases dd<;>rfl)) (fj _ _)))) ?_) ?_
 ·rw [RI]
  intro b hb
  obtain ⟨x,hx,rfl⟩:=zd.mp hb
  rw [WA.mpr (mem x hx)]
  decide
 refine aS (de (Ev.s (Ev.to (dh (own:=["word"]) (fr:=[0]) o ds (fun x=>ti (iK ts x)) (fun i=>bQ) (bN (ae 1 rfl) rfl) (aZ 0 (fun _=>by show List.Nodup (["word", "things"]:List Str);decide)) (by decide) (by omega) (fun x hx=>⟨_,rfl,by
  refine Uw (v:=.str x) (ws:=ts.map V.str) (j:=kd ts x) (ae 1 rfl) (by rw [qr];rfl) (ae 0 rfl) ⟨.str x,by rw [i4,xF (mem x hx)];rfl,by show decide _=true;exact zw rfl⟩ (fun i z hi hz=>?_)
  rw [i4] at hz
  obtain ⟨y,hy,rfl⟩:=aba.mp hz
  show decide _=false
  exact uu (Wl hi hy)⟩) (fun dd=>by cases dd<;>rfl)) ?_)))
 show Tr.ow _=Tr.ow (List.map _ (List.map _ _))
 rw [qr];rfl
def Ny (c:cm)(dd:List Dv)(Ξ:jZ):Prop:=∃ (ts:List Str) (o:List Str),o.length<=100/\(∃ x ∈ o,x ∉ ts)/\dd=[ag ts,ag o]/\Ξ=fun G H E=>gX G H c.lH E
theorem R4 {f ft fw:Addr}{fd:FuncData}{k:Nat}{c:cm}(F:cE K "read_order" "read_order" pG f fd)(T:Txt mg)(U:iT K mg c ft fw):bc P w K mg base (bq P w) (k+1) f fd ["things", "words"] (dP K (Ny c)):=by
 refine pY F.d Jq (fun dd t h=>by obtain ⟨_,_,_,_,rfl,_⟩:=h;rfl) fun dd t h=>?_
 obtain ⟨ts,o,ol,⟨y,hy,hn⟩,rfl,rfl⟩:=h
 have big : 1000<sizeLine:=by decide
 refine kn (cG.to (q:=true) (Et.s (dY (mP (bs:=o.map fun x=>!ts.contains x) T.mY (dh (own:=["word"]) (fr:=[0]) o ds (fun x=>tb (!ts.contains x)) (fun i=>bQ) (bN (ae 1 rfl) rfl) (aZ 0 (fun _=>by show List.Nodup (["word", "things"]:List Str);decide)) (by decide) (by omega) (fun x hx=>⟨_,rfl,by exact J8 (ws:=ts) (ae 0 rfl) (ae 1 rfl) rfl (by with_unfolding_all rfl)⟩) (fun dd=>by cases dd<;>rfl)) (fj _ _)))) ?_) (kc.g (mE U.sk U.uF))
 rw [abF]
 refine ⟨_,zd.mpr ⟨y,hy,rfl⟩,?_⟩
 show (!ts.contains y)=true
 cases hc:ts.contains y with
 |false=>rfl
 |true=>exact absurd (WA.mp hc) hn
end
section
variable {P:Program}{w:World}{K:Frag}{mg:Str->Option Value}{base:Heap}
theorem qc:(Str.ofString " ")=one 32:=by decide +kernel
theorem mR:(Str.ofString "\n")=one 10:=by decide +kernel
theorem YZ {N:List Str}{qual:Str}{av sc:Scope}{f:Addr}{cd:Value}{A:Around}{outer:List Env}{s:Shared}{H:Hp}{E:XK}{fr:List Nat}(L:DJ N av sc fr):gy (bj (bq P w) P w K mg base N qual av f cd A outer s H E) sc (fB (cellsFrom (s.heap.objs.size+1) av.names []) sc.names []) fr:=by
 have Z:=lcs (CX:=bq P w) (P:=P) (w:=w) (K:=K) (mg:=mg) (base:=base) (qual:=qual) (f:=f) (cd:=cd) (A:=A) (outer:=outer) (s:=s) (H:=H) (E:=E) (XE:=fun _ _=>False) L
 exact ⟨Z.tf,Z.kind,Z.cells,Z.names,Z.sub,Z.has,Z.Gj⟩
theorem Vs {N:List Str}{qual:Str}{sc:Scope}{f:Addr}{k:Nat}{ρ:En}{bh:List Stmt}{Ξ:jZ}{pos:Pos}{g xa xb:Str}{j ja jb:Nat}{ta tb:Tr}{f':Addr}{nI:FuncData}{nJ:List Str}{R:List Dv->jZ->Prop}{e:Expr}{es:List Expr}{ts:List Tr}{p2 p3 pa pb pt:Pos}{kt}(Fn:Kn P w K mg base (bq P w) j g f' nI nJ (dP K R))(hj:j<=k)(ha:fF (eL P w K mg base N qual sc f k) (e::es) (pk ρ) ts)(hR:R (dz ts) Ξ)(la:Later Ξ)(h1 : ρ[ja]?=some (some ta))(h2 : ρ[jb]?=some (some tb))(hps:∀ (τ:nH k qual sc f->TE),(∀ i,PE (bF P w K mg base N qual sc f k i) (.Call (.Name g p2) (e::es) [] p3) (τ i))->∀ i,PS (bF P w K mg base N qual sc f k i) (.Return (some (.Tuple [.Name xa pa,.Name xb pb,.Call (.Name g p2) (e::es) [] p3] kt pt)) pos) (m8 (qA (aT (bD ja) (aT (bD jb) (aT (τ i) ck))))))(hg:∀ i,Gl (bF P w K mg base N qual sc f k i) g:=by intro _;rfl)(kP:(g==("__debug__" : Str))=false:=by decide)(he:∀ i,starEach (e::es) (bF P w K mg base N qual sc f k i).env=(false,eval e (bF P w K mg base N qual sc f k i).env)::starEach es (bF P w K mg base N qual sc f k i).env:=by intro _;rfl)(cv:∀ i,(backTo p3 (starEach es (bF P w K mg base N qual sc f k i).env)).any (·.1)=false:=by intro _;rfl) :
  jA P w K mg base N qual sc f k (.Return (some (.Tuple [.Name xa pa,.Name xb pb,.Call (.Name g p2) (e::es) [] p3] kt pt)) pos::bh) ρ Ξ:=by
 obtain ⟨τ,x,y⟩:=DN (p2:=p2) (p3:=p3) Fn hj ha hR la hg kP he cv
 refine ⟨fun i=>cq (m8 (qA (aT (bD ja) (aT (bD jb) (aT (τ i) ck))))) iy,fun i=>bM (hps τ x i) iZ,fun i D σ G0 H0 G H r kx=>?_⟩
 obtain ⟨fp,r'⟩:=id r
 obtain ⟨va,_,_,q1,_⟩:=r'.own.split h1
 obtain ⟨vb,_,_,q2,_⟩:=r'.own.split h2
 exact ⟨va,q1,vb,q2,y i _ σ G0 H0 G H r kx⟩
theorem gw.line {W:List (List Str)}(h:gw W){l:List Str}(hl:l ∈ W):(Str.join (one 32) l).length<=4260:=by
 have:=Kd (d:=32) (n:=70) (l:=l) fun x hx=>h.wl l hl x hx
 have:=h.ll l hl
 have : 71*l.length<=71*60:=Nat.mul_le_mul_left _ this
 omega
theorem gw.text {W:List (List Str)}(h:gw W):(Str.join (one 10) (W.map (Str.join (one 32)))).length<=255660:=by
 have h1:=Kd (d:=10) (n:=4260) (l:=W.map (Str.join (one 32))) fun x hx=>by
  obtain ⟨l,hl,rfl⟩:=zd.mp hx
  exact h.line hl
 rw [aa] at h1
 have : 4261*W.length<=4261*60:=Nat.mul_le_mul_left _ h.ln
 omega
theorem gw.split {W:List (List Str)}(h:gw W)(h0:W ≠ []):Txt.split (Str.join (one 10) (W.map (Str.join (one 32)))) (one 10)=W.map (Str.join (one 32)):=by
 refine JE (fun z=>h0 (acw.mp z)) fun x hx=>?_
 obtain ⟨l,hl,rfl⟩:=zd.mp hx
 exact mem_join (by decide) fun x hx=>h.nl l hl x hx
theorem gw.Eh {W:List (List Str)}(h:gw W){l:List Str}(hl:l ∈ W):Txt.split (Str.join (one 32) l) (one 32)=l:=JE (h.ne l hl) fun x hx=>h.sp l hl x hx
theorem vj {α β γ:Type}(f : α->β->γ):∀ (as:List α) (bs:List β),List.zipWith f as bs=(as.zip bs).map fun p=>f p.1 p.2
 |[],_=>rfl
 |_::_,[] => rfl
 |a::as,b::bs=>by rw [List.zipWith_cons_cons,vj f as bs];rfl
theorem EL (W:List (List Str)):er (.ow (W.map aP))=gb W:=by
 show Dv.lst _=Dv.lst _
 rw [pU,qr]
 congr 1
 exact ON fun l _=>dW l
abbrev eE (ts:List Str)(os:List (List Str)):LL:=os.map fun o=>o.map (iK ts)
def eJ (ts:List Str)(cs:LI)(as:List Str)(os:List (List Str)):eD :=
 if (os.all fun o=>o.all fun x=>ts.contains x)=false then .name else if decide ts.Nodup=false\/decide as.Nodup=false then .double else tG cs (eE ts os)
theorem MO {ts:List Str}{cs:LI}{as:List Str}{os:List (List Str)}(h:Cw ts cs as os):Fp cs (eE ts os):=by
 have:=h.jG
 have:=h.gY
 have:=h.tl
 have:=h.al
 refine ⟨by omega,by rw [aa];omega,fun o ho=>?_⟩
 obtain ⟨o',cu,rfl⟩:=zd.mp ho
 have:=h.jF o' cu
 rw [aa];omega
theorem vk {ts:List Str}{os:List (List Str)}(h:(os.all fun o=>o.all fun x=>ts.contains x)=true):∀ o ∈ os,∀ x ∈ o,x ∈ ts:=fun o ho x hx=>WA.mp (Pf.mp (Pf.mp h o ho) x hx)
theorem KQ {ts:List Str}{os:List (List Str)}(h:(os.all fun o=>o.all fun x=>ts.contains x)=false):∃ (m:Nat) (o:List Str),os[m]?=some o/\(∃ x ∈ o,x ∉ ts)/\∀ n o',n<m->os[n]?=some o'->∀ x ∈ o',x ∈ ts:=by
 cases hf:os.findIdx? (fun o=>!(o.all fun x=>ts.contains x)) with
 |none =>
  exfalso
  have:=NH.mp hf
  have:(os.all fun o=>o.all fun x=>ts.contains x)=true:=Pf.mpr fun o ho=>by simpa using this o ho
  rw [h] at this
  cases this
 |some m =>
  obtain ⟨hl,h1,h2⟩:=Of.mp hf
  refine ⟨m,os[m],ar hl,?_,fun n o' hn ho x hx=>?_⟩
  ·rw [WS] at h1
   obtain ⟨x,hx,hc⟩:=acd.mp h1
   exact ⟨x,hx,fun z=>hc (WA.mpr z)⟩
  ·obtain ⟨QD,rfl⟩:=gz.mp ho
   have:=h2 n hn
   rw [WS,YA] at this
   exact WA.mp (Pf.mp this x hx)
abbrev nRL:List Str:=["texts", "lines", "things", "counts", "askers", "orders"]
abbrev pH:Stmt:=top 34
theorem iM:cH nRL ["texts"] (aD pH):=eA
abbrev ou (ts as:List Str)(c:LI)(os:LL):Tr:=.tp [aP ts,aP as,.tp [cU c,kr os]]
abbrev ke (W:List (List Str)):Dv:=ag (W.map (Str.join (one 32)))
def OC (dd:List Dv)(t:Tr):Prop:=∃ (ts:List Str) (cs:LI) (as:List Str) (os:List (List Str)),Cw ts cs as os/\eJ ts cs as os=.made/\dd=[ke (aK ts cs as os)]/\t=ou ts as cs (eE ts os)
theorem Sq {f f1 f2 f3 f4:Addr}{fd cW fd2 t5 t7:FuncData}{k:Nat}(F:cE K "read_lines" "read_lines" pH f fd)(T:Txt mg)(TK:Kn P w K mg base aG (k+3) "table_of" f1 cW ["counts", "orders"] (spT K Oz))(Bu:Kn P w K mg base aG (k+3) "check_words" f2 fd2 ["lines"] (spT K EK))(uj:Kn P w K mg base aG (k+3) "check_double" f3 t5 ["names"] (spT K Fv))(wz:Kn P w K mg base aG (k+3) "read_order" f4 t7 ["things", "words"] (spT K Fx)):bc P w K mg base aG (k+4) f fd ["texts"] (spT K OC):=by
 refine fQ F.d iM (fun dd t h=>by obtain ⟨_,_,_,_,_,_,rfl,_⟩:=h;rfl) fun dd t h=>?_
 obtain ⟨ts,cs,as,os,hc,hw,rfl,rfl⟩:=h
 refine ⟨_,.inl rfl,?_⟩
 have big : 5000<sizeLine:=by decide
 have jG:=hc.jG
 have gY:=hc.gY
 have tl:=hc.tl
 have al:=hc.al
 have ok:=hc.ok
 have QS:=ok.ln
 unfold eJ at hw
 split at hw
 ·cases hw
 rename_i eC
 rw [YA] at eC
 split at hw
 ·cases hw
 rename_i QT
 have t8:ts.Nodup:=by
  refine Na ?_
  cases h:decide ts.Nodup with
  |true=>rfl
  |false=>exact absurd (.inl h) QT
 have dg:as.Nodup:=by
  refine Na ?_
  cases h:decide as.Nodup with
  |true=>rfl
  |false=>exact absurd (.inr h) QT
 have mem:=vk eC
 have zl:(as.zip os).length=os.length:=by rw [acy];omega
 have e3:cutD ((aK ts cs as os).map ag) (some 1) none=(as.zip os).map fun p=>ag (p.1::p.2):=by
  refine (lu _ 1).trans ?_
  show (gM as os).map ag=_
  unfold gM
  rw [vj,qr];rfl
 refine aE (ρ1:=[some (.fz (ke (aK ts cs as os))),some (.fz (gb (aK ts cs as os))),none,none,none,none]) (jR 1 (ni (eR.as (d:=gb (aK ts cs as os)) (lP (own:=["text"]) (fr:=[]) (aK ts cs as os) (fun l=>ds (Str.join (one 32) l)) aP (aX.to (bN (ae 0 rfl) rfl) (by rw [qr];rfl)) (aZ 0 (fun _=>by show List.Nodup (["text"]:List Str);decide)) (by decide) (by omega) (fun l hl=>⟨_,rfl,by
   have:=ok.line hl
   exact Ev.to (sj (ae 0 rfl) bJ (by decide +kernel) (by omega)) (by rw [qc,ok.Eh hl])⟩) (fun dd=>by cases dd<;>rfl)) (EL _))) (fun i=>bQ) (fun _=>iM.nd)) ?_
 refine aE (pV (Ev.s (bZ Bu (ee _) (ah (ae 1 rfl) ao) ⟨_,_,_,ok,hc.gA,hc.gB,hc.gL,rfl,rfl⟩))) ?_
 refine aE (bS 2 (cF.to (t':=aP ts) (Ev.s (ot (n:=1) (bA (d:=ag ("things" :: bV ts cs)) (ae 1 rfl) af rfl (gD _ _)) rfl af af)) (by rw [uR,wQ tl,qr];rfl)) (fun _=>iM.nd)) ?_
 refine aE (ρ1:=[some (.fz (ke (aK ts cs as os))),some (.fz (gb (aK ts cs as os))),some (aP ts),some (.fz (dis cs)),none,none]) (jR 3 (ni (eR.as (d:=dis cs) (lP (own:=["word"]) (fr:=[]) cs (fun x=>ds (aO x)) ti (aX.to (bN (ot (n:=2) (bA (d:=ag ("things" :: bV ts cs)) (ae 1 rfl) af rfl (gD _ _)) rfl af af) (gk _)) (by rw [uR,xo tl,qr];rfl)) (aZ 0 (fun _=>by show List.Nodup (["word"]:List Str);decide)) (by decide) (by omega) (fun x hx=>⟨_,rfl,by
   obtain ⟨x0,x9⟩:=hc.cn x hx
   exact DR (n:=x) T.xW (ae 0 rfl) (uI x0 x9) (by have:=sq x0 x9;omega)⟩) (fun dd=>by cases dd<;>rfl)) (pQ cs))) (fun i=>bQ) (fun _=>iM.nd)) ?_
 refine aE (ρ1:=[some (.fz (ke (aK ts cs as os))),some (.fz (gb (aK ts cs as os))),some (aP ts),some (.fz (dis cs)),some (aP as),none]) (jR 4 (ni (eR.to (t':=aP as) (lP (own:=["words"]) (fr:=[]) (as.zip os) (fun p=>ag (p.1::p.2)) (fun p=>tx p.1) (aX.to (bN (fM (ae 1 rfl) rfl (eS af) gi) (gk _)) e3) (aZ 0 (fun _=>by show List.Nodup (["words"]:List Str);decide)) (by decide) (by omega) (fun p hp=>⟨_,rfl,by exact bA (d:=ds p.1) (ae 0 rfl) af rfl (gD _ _)⟩) (fun dd=>by cases dd<;>rfl)) ?_)) (fun i=>bQ) (fun _=>iM.nd)) ?_
 ·show Tr.ow _=Tr.ow _
  conv=>rhs;rw [<- List.map_fst_zip (l₁:=as) (l₂:=os) (by omega),qr]
  rfl
 refine aE (ρ1:=[some (.fz (ke (aK ts cs as os))),some (.fz (gb (aK ts cs as os))),some (aP ts),some (.fz (dis cs)),some (aP as),some (kr (eE ts os))]) (jR 5 (Fl (eR.to (t':=kr (eE ts os)) (lP (own:=["words"]) (fr:=[2]) (as.zip os) (fun p=>ag (p.1::p.2)) (fun p=>cU (p.2.map (iK ts))) (aX.to (bN (fM (ae 1 rfl) rfl (eS af) gi) (gk _)) e3) (aZ 0 (fun _=>by show List.Nodup (["words", "things"]:List Str);decide)) (by decide) (by omega) (fun p hp=>⟨_,rfl,by
   have po:p.2 ∈ os:=(abr hp).2
   have:=hc.jF _ po
   refine bZ wz (ee _) (ah (ae 1 rfl) (ah (fM (ae 0 rfl) rfl (eS af) gi) ao)) ⟨ts,p.2,by omega,mem _ po,?_,rfl⟩
   show [er (aP ts),er (.ow _)]=_
   rw [dW,gk,show ((1:Int))=((1:Nat):Int) from rfl,lu];rfl⟩) (fun dd=>by cases dd<;>rfl)) ?_) (Dg _)) (fun i=>bQ) (fun _=>iM.nd)) ?_
 ·show Tr.ow _=Tr.ow (List.map cU (List.map _ _))
  conv=>rhs;rw [<- List.map_snd_zip (l₁:=as) (l₂:=os) (by omega),qr,qr]
  rfl
 refine By (d:=.lst ((eE ts os).map dis)) 5 rfl (wM _) ?_
 refine aE (pV (Ev.pk (t:=tn) (bZ uj (ee _) (ah (ae 2 rfl) ao) ⟨ts,t8,by omega,by show [er (aP ts)]=_;rw [dW],rfl⟩) True.intro)) ?_
 refine aE (pV (Ev.pk (t:=tn) (bZ uj (ee _) (ah (ae 4 rfl) ao) ⟨as,dg,by omega,by show [er (aP as)]=_;rw [dW],rfl⟩) True.intro)) ?_
 exact aS (Vf 2 4 (by decide) rfl rfl (Ev.s (bZ TK (ee _) (ah (ae 3 rfl) (ah (ae 5 rfl) ao)) ⟨cs,eE ts os,MO hc,hw,rfl,rfl⟩)) (fun τ we i=>og (sJ (au (pv 2) (au (pv 4) (au (we i) aV))))))
end
section
variable {P:Program}{w:World}{K:Frag}{mg:Str->Option Value}{base:Heap}
def Nz (c:cm)(dd:List Dv)(Ξ:jZ):Prop:=(∃ (a:Str) (l:List Str) (R:List (List Str)),gw ((a::l)::R)/\(kA (a::l)=true\/jj (a::l)=true\/∃ x ∈ R,ib x=true)/\dd=[ke ((a::l)::R)]/\Ξ=fun G H E=>gX G H c.jS E) \/
 ∃ (ts:List Str) (cs:LI) (as:List Str) (os:List (List Str)),Cw ts cs as os/\dd=[ke (aK ts cs as os)]/\qI c (eJ ts cs as os)=some Ξ
theorem R5 {f f1 f2 f3 f4 ft fw:Addr}{fd cW fd2 t5 t7:FuncData}{k:Nat}{c:cm}(F:cE K "read_lines" "read_lines" pH f fd)(T:Txt mg)(U:iT K mg c ft fw)(Bu:Kn P w K mg base aG (k+3) "check_words" f2 fd2 ["lines"] (spT K EK))(uj:Kn P w K mg base aG (k+3) "check_double" f3 t5 ["names"] (spT K Fv))(wz:Kn P w K mg base aG (k+3) "read_order" f4 t7 ["things", "words"] (spT K Fx))(Tb:Kn P w K mg base (bq P w) (k+4) "table_of" f1 cW ["counts", "orders"] (dP K (Nv c)))(R6:Kn P w K mg base (bq P w) (k+3) "check_words" f2 fd2 ["lines"] (dP K (MM c)))(Jo:Kn P w K mg base (bq P w) (k+3) "check_double" f3 t5 ["names"] (dP K (Nx c)))(Sr:Kn P w K mg base (bq P w) (k+3) "read_order" f4 t7 ["things", "words"] (dP K (Ny c))):bc P w K mg base (bq P w) (k+5) f fd ["texts"] (dP K (Nz c)):=by
 refine pY F.d iM (fun dd t h=>by
  rcases h with ⟨_,_,_,_,_,rfl,_⟩ | ⟨_,_,_,_,_,rfl,_⟩<;>rfl) fun dd Ξ h=>?_
 have big : 5000<sizeLine:=by decide
 rcases h with ⟨a,l,R,ok,bad,rfl,rfl⟩ | ⟨ts,cs,as,os,hc,rfl,hx⟩
 ·have QS:=ok.ln
  refine fN (ρ1:=[some (.fz (ke ((a::l)::R))),some (.fz (gb ((a::l)::R))),none,none,none,none]) (jR 1 (ni (eR.as (d:=gb ((a::l)::R)) (lP (own:=["text"]) (fr:=[]) ((a::l)::R) (fun l=>ds (Str.join (one 32) l)) aP (aX.to (bN (ae 0 rfl) rfl) (by rw [qr];rfl)) (aZ 0 (fun _=>by show List.Nodup (["text"]:List Str);decide)) (by decide) (by omega) (fun l hl=>⟨_,rfl,by
    have:=ok.line hl
    exact Ev.to (sj (ae 0 rfl) bJ (by decide +kernel) (by omega)) (by rw [qc,ok.Eh hl])⟩) (fun dd=>by cases dd<;>rfl)) (EL _))) (fun i=>bQ) (fun _=>iM.nd)) ?_
  exact wN R6 (by omega) (ah (ae 1 rfl) ao) ⟨a,l,R,ok,bad,rfl,rfl⟩ pX
 have jG:=hc.jG
 have gY:=hc.gY
 have tl:=hc.tl
 have al:=hc.al
 have ok:=hc.ok
 have QS:=ok.ln
 have zl:(as.zip os).length=os.length:=by rw [acy];omega
 have e3:cutD ((aK ts cs as os).map ag) (some 1) none=(as.zip os).map fun p=>ag (p.1::p.2):=by
  refine (lu _ 1).trans ?_
  show (gM as os).map ag=_
  unfold gM
  rw [vj,qr];rfl
 refine fN (ρ1:=[some (.fz (ke (aK ts cs as os))),some (.fz (gb (aK ts cs as os))),none,none,none,none]) (jR 1 (ni (eR.as (d:=gb (aK ts cs as os)) (lP (own:=["text"]) (fr:=[]) (aK ts cs as os) (fun l=>ds (Str.join (one 32) l)) aP (aX.to (bN (ae 0 rfl) rfl) (by rw [qr];rfl)) (aZ 0 (fun _=>by show List.Nodup (["text"]:List Str);decide)) (by decide) (by omega) (fun l hl=>⟨_,rfl,by
   have:=ok.line hl
   exact Ev.to (sj (ae 0 rfl) bJ (by decide +kernel) (by omega)) (by rw [qc,ok.Eh hl])⟩) (fun dd=>by cases dd<;>rfl)) (EL _))) (fun i=>bQ) (fun _=>iM.nd)) ?_
 refine fN (pV (Ev.s (bZ Bu (by show k+3<=k+4;omega) (ah (ae 1 rfl) ao) ⟨_,_,_,ok,hc.gA,hc.gB,hc.gL,rfl,rfl⟩))) ?_
 refine fN (bS 2 (cF.to (t':=aP ts) (Ev.s (ot (n:=1) (bA (d:=ag ("things" :: bV ts cs)) (ae 1 rfl) af rfl (gD _ _)) rfl af af)) (by rw [uR,wQ tl,qr];rfl)) (fun _=>iM.nd)) ?_
 refine fN (ρ1:=[some (.fz (ke (aK ts cs as os))),some (.fz (gb (aK ts cs as os))),some (aP ts),some (.fz (dis cs)),none,none]) (jR 3 (ni (eR.as (d:=dis cs) (lP (own:=["word"]) (fr:=[]) cs (fun x=>ds (aO x)) ti (aX.to (bN (ot (n:=2) (bA (d:=ag ("things" :: bV ts cs)) (ae 1 rfl) af rfl (gD _ _)) rfl af af) (gk _)) (by rw [uR,xo tl,qr];rfl)) (aZ 0 (fun _=>by show List.Nodup (["word"]:List Str);decide)) (by decide) (by omega) (fun x hx=>⟨_,rfl,by
   obtain ⟨x0,x9⟩:=hc.cn x hx
   exact DR (n:=x) T.xW (ae 0 rfl) (uI x0 x9) (by have:=sq x0 x9;omega)⟩) (fun dd=>by cases dd<;>rfl)) (pQ cs))) (fun i=>bQ) (fun _=>iM.nd)) ?_
 refine fN (ρ1:=[some (.fz (ke (aK ts cs as os))),some (.fz (gb (aK ts cs as os))),some (aP ts),some (.fz (dis cs)),some (aP as),none]) (jR 4 (ni (eR.to (t':=aP as) (lP (own:=["words"]) (fr:=[]) (as.zip os) (fun p=>ag (p.1::p.2)) (fun p=>tx p.1) (aX.to (bN (fM (ae 1 rfl) rfl (eS af) gi) (gk _)) e3) (aZ 0 (fun _=>by show List.Nodup (["words"]:List Str);decide)) (by decide) (by omega) (fun p hp=>⟨_,rfl,by exact bA (d:=ds p.1) (ae 0 rfl) af rfl (gD _ _)⟩) (fun dd=>by cases dd<;>rfl)) ?_)) (fun i=>bQ) (fun _=>iM.nd)) ?_
 ·show Tr.ow _=Tr.ow _
  conv=>rhs;rw [<- List.map_fst_zip (l₁:=as) (l₂:=os) (by omega),qr]
  rfl
 have ER:∀ p:Str×List Str,[er (aP ts),er (.ow ((cutD ((p.1::p.2).map ds) (some 1) none).map .fz))]=[ag ts,ag p.2]:=fun p=>by
  rw [dW,gk,show ((1:Int))=((1:Nat):Int) from rfl,lu];rfl
 unfold eJ at hx
 split at hx
 ·rename_i eC
  cases hx
  obtain ⟨m,o,hm,Fs,Fu⟩:=KQ eC
  have om:=ma hm
  have lm:=(gz.mp hm).1
  obtain ⟨p,hp,ep⟩:∃ p,(as.zip os)[m]?=some p/\p.2=o:=by
   refine ⟨(as[m]'(by omega),o),abD.mpr ⟨ar _,hm⟩,rfl⟩
  refine Xr (own:=["words"]) (fr:=[2]) (Ξ:=fun G H E=>gX G H c.lH E) Sr (by omega) (aX.to (bN (fM (ae 1 rfl) rfl (eS af) gi) (gk _)) e3) (aZ 0 (fun _=>by show List.Nodup (["words", "things"]:List Str);decide)) (by decide) (by rw [aa];omega) m (fun n d hn hd=>?_) ⟨ag (p.1::p.2),_,_,(by rw [i4,hp];rfl),rfl,ah (ae 1 rfl) (ah (fM (ae 0 rfl) rfl (eS af) gi) ao),ts,p.2,by rw [ep];have:=hc.jF o om;omega,by rw [ep];exact Fs,ER p,rfl⟩ pX (fun dd=>by cases dd<;>rfl) 5 iM.nd (fun i=>YZ ⟨rfl,rfl,by decide +kernel,by decide +kernel,by decide +kernel,by decide +kernel⟩)
  obtain ⟨q,hq,rfl⟩:=iN hd
  obtain ⟨_,q2⟩:=abD.mp hq
  exact ⟨_,_,rfl,bZ wz (by show k+3<=k+4;omega) (ah (ae 1 rfl) (ah (fM (ae 0 rfl) rfl (eS af) gi) ao)) ⟨ts,q.2,by have:=hc.jF _ (ma q2);omega,Fu n _ hn q2,ER q,rfl⟩⟩
 rename_i eC
 rw [YA] at eC
 have mem:=vk eC
 refine fN (ρ1:=[some (.fz (ke (aK ts cs as os))),some (.fz (gb (aK ts cs as os))),some (aP ts),some (.fz (dis cs)),some (aP as),some (kr (eE ts os))]) (jR 5 (Fl (eR.to (t':=kr (eE ts os)) (lP (own:=["words"]) (fr:=[2]) (as.zip os) (fun p=>ag (p.1::p.2)) (fun p=>cU (p.2.map (iK ts))) (aX.to (bN (fM (ae 1 rfl) rfl (eS af) gi) (gk _)) e3) (aZ 0 (fun _=>by show List.Nodup (["words", "things"]:List Str);decide)) (by decide) (by omega) (fun p hp=>⟨_,rfl,by
   have po:p.2 ∈ os:=(abr hp).2
   have:=hc.jF _ po
   exact bZ wz (by show k+3<=k+4;omega) (ah (ae 1 rfl) (ah (fM (ae 0 rfl) rfl (eS af) gi) ao)) ⟨ts,p.2,by omega,mem _ po,ER p,rfl⟩⟩) (fun dd=>by cases dd<;>rfl)) ?_) (Dg _)) (fun i=>bQ) (fun _=>iM.nd)) ?_
 ·show Tr.ow _=Tr.ow (List.map cU (List.map _ _))
  conv=>rhs;rw [<- List.map_snd_zip (l₁:=as) (l₂:=os) (by omega),qr,qr]
  rfl
 have dT:[er (.fz (er (aP ts)))]=[ag ts]:=by show [er (aP ts)]=_;rw [dW]
 have dA:[er (.fz (er (aP as)))]=[ag as]:=by show [er (aP as)]=_;rw [dW]
 by_cases t8:ts.Nodup
 ·refine fN (pV (Ev.pk (t:=tn) (bZ uj (by show k+3<=k+4;omega) (ah (ae 2 rfl) ao) ⟨ts,t8,by omega,dT,rfl⟩) True.intro)) ?_
  by_cases dg:as.Nodup
  ·refine fN (pV (Ev.pk (t:=tn) (bZ uj (by show k+3<=k+4;omega) (ah (ae 4 rfl) ao) ⟨as,dg,by omega,dA,rfl⟩) True.intro)) ?_
   rw [AM (by rw [zw t8,zw dg];simp)] at hx
   refine Vs Tb (ee _) (ah (ae 3 rfl) (ah (ae 5 rfl) ao)) ⟨cs,eE ts os,MO hc,?_,hx⟩ (KN hx) (ja:=2) (jb:=4) rfl rfl (fun τ we i=>og (sJ (au (pv 2) (au (pv 4) (au (we i) aV)))))
   show [dis cs,er (kr _)]=_
   rw [wM]
  ·rw [Cn (.inr (uu dg))] at hx
   cases hx
   exact wN Jo (by omega) (ah (ae 4 rfl) ao) ⟨as,dg,by omega,dA,rfl⟩ pX
 ·rw [Cn (.inl (uu t8))] at hx
  cases hx
  exact wN Jo (by omega) (ah (ae 2 rfl) ao) ⟨ts,t8,by omega,dT,rfl⟩ pX
abbrev pI:Stmt:=top 35
theorem Jr:cH ["text"] ["text"] (aD pI):=eA
abbrev bL (W:List (List Str)):Str:=Str.join (one 10) (W.map (Str.join (one 32)))
def OD (dd:List Dv)(t:Tr):Prop:=∃ (ts:List Str) (cs:LI) (as:List Str) (os:List (List Str)),Cw ts cs as os/\eJ ts cs as os=.made/\dd=[ds (bL (aK ts cs as os))]/\t=ou ts as cs (eE ts os)
theorem Ss {f f1:Addr}{fd cW:FuncData}{k:Nat}(F:cE K "read_table" "read_table" pI f fd)(T:Txt mg)(SW:Kn P w K mg base aG (k+4) "read_lines" f1 cW ["texts"] (spT K OC)):bc P w K mg base aG (k+5) f fd ["text"] (spT K OD):=by
 refine fQ F.d Jr (fun dd t h=>by obtain ⟨_,_,_,_,_,_,rfl,_⟩:=h;rfl) fun dd t h=>?_
 obtain ⟨ts,cs,as,os,hc,hw,rfl,rfl⟩:=h
 refine ⟨_,.inl rfl,?_⟩
 have big : 300000<sizeLine:=by decide
 have:(bL (aK ts cs as os)).length<=255660:=hc.ok.text
 refine aE (cA (Et.s (i5 (dY (vh (bo:=true) T.fe T.sV vd (ae 0 rfl) (by with_unfolding_all rfl))))) rfl) ?_
 refine aS (de (Ev.s (bZ SW (ee _) (ah (sj (ae 0 rfl) bJ (by decide +kernel) (by omega)) ao) ⟨ts,cs,as,os,hc,hw,?_,rfl⟩)))
 show [er (aP _)]=_
 rw [dW,mR,hc.ok.split (by simp [aK])]
def Fz (d:Dv):Prop:=d=dn\/(∃ n,d=di n)\/(∃ l,d=.lst l)\/∃ l,d=.tup l
def EV (c:cm)(dd:List Dv)(Ξ:jZ):Prop:=(∃ d,Fz d/\dd=[d]/\Ξ=fun G H E=>gX G H c.jS E) \/
 (∃ (a:Str) (l:List Str) (R:List (List Str)),gw ((a::l)::R)/\(kA (a::l)=true\/jj (a::l)=true\/∃ x ∈ R,ib x=true)/\dd=[ds (bL ((a::l)::R))]/\Ξ=fun G H E=>gX G H c.jS E) \/
 ∃ (ts:List Str) (cs:LI) (as:List Str) (os:List (List Str)),Cw ts cs as os/\dd=[ds (bL (aK ts cs as os))]/\qI c (eJ ts cs as os)=some Ξ
theorem R7 {f f1 ft fw:Addr}{fd cW:FuncData}{k:Nat}{c:cm}(F:cE K "read_table" "read_table" pI f fd)(T:Txt mg)(U:iT K mg c ft fw)(Js:Kn P w K mg base (bq P w) (k+5) "read_lines" f1 cW ["texts"] (dP K (Nz c))):bc P w K mg base (bq P w) (k+6) f fd ["text"] (dP K (EV c)):=by
 refine pY F.d Jr (fun dd t h=>by
  rcases h with ⟨_,_,rfl,_⟩ | ⟨_,_,_,_,_,rfl,_⟩ | ⟨_,_,_,_,_,rfl,_⟩<;>rfl) fun dd Ξ h=>?_
 have big : 300000<sizeLine:=by decide
 rcases h with ⟨d,hd,rfl,rfl⟩ | ⟨a,l,R,ok,bad,rfl,rfl⟩ | ⟨ts,cs,as,os,hc,rfl,hx⟩
 ·refine kn (cG.to (q:=true) (Et.s (i5 (dY (vh (bo:=false) T.fe T.sV vd (ae 0 rfl) ?_)))) rfl) (kc.g (mE U.mH U.nS))
  rcases hd with rfl | ⟨n,rfl⟩ | ⟨l,rfl⟩ | ⟨l,rfl⟩<;>with_unfolding_all rfl
 ·have:(bL ((a::l)::R)).length<=255660:=ok.text
  refine fN (cA (Et.s (i5 (dY (vh (bo:=true) T.fe T.sV vd (ae 0 rfl) (by with_unfolding_all rfl))))) rfl) ?_
  refine LX Js (ee _) (ah (sj (ae 0 rfl) bJ (by decide +kernel) (by omega)) ao) (.inl ⟨a,l,R,ok,bad,?_,rfl⟩) pX
  show [er (aP _)]=_
  rw [dW,mR,ok.split (by simp)]
 ·have:(bL (aK ts cs as os)).length<=255660:=hc.ok.text
  refine fN (cA (Et.s (i5 (dY (vh (bo:=true) T.fe T.sV vd (ae 0 rfl) (by with_unfolding_all rfl))))) rfl) ?_
  refine LX Js (ee _) (ah (sj (ae 0 rfl) bJ (by decide +kernel) (by omega)) ao) (.inr ⟨ts,cs,as,os,hc,?_,hx⟩) (KN hx)
  show [er (aP _)]=_
  rw [dW,mR,hc.ok.split (by simp [aK])]
end
section
variable {P:Program}{w:World}{K:Frag}{mg:Str->Option Value}{base:Heap}
def dG:eD->LI
 | .great=>[1,13]
 | .oB=>[2,13]
 | .number=>[5,13]
 | .thing _=>[3,13]
 | .twice _=>[4,13]
 | .text=>[6,13]
 | .name=>[9,13]
 | .double=>[10,13]
 | .made=>[]
def ez:eD->V
 | .twice j=>.int j
 |_=>.aN
theorem Xx {ω:eD}(h : ω ≠ .made):mi (qJ (EH ω)) 14=dG ω:=by
 cases ω with
 |made=>exact absurd rfl h
 |_=>rfl
abbrev Hk:List Str:=["_law_text", "_law_some", "_law_field", "_law_found", "_law_e"]
abbrev lg:Stmt:=top 47
theorem jI:cH Hk ["_law_text"] (aD lg):=eA
theorem Wm {f ft fw f2:Addr}{fd2:FuncData}{k:Nat}{c:cm}(T:Txt mg)(U:iT K mg c ft fw)(sW:Hj P w K mg base 1 "_law_classes" f2 fd2 ["_law_e"] (xX K mg c))(t0:Tr)(ω:eD) :
  ∃ th:Addr->TS,(∀ q a,df (((tD P w K mg base Hk "_law_told" (aD lg) f (k+1)).cx q).suite (.ref a)) (OA ((bR lg).getD 3 (.Pass ⟨0,0,0,0⟩))) (th a))/\∀ (E:Ends) σ G0 H0 G H a,RS K G0 H0 G H [some t0,some (.ow []),some tn,some tn,none] σ->σ[4]?=some (some (.ref a))->t4 c ω H a->(∀ aA G' H',RS K G0 H0 G' H' [some t0,some (cU (dG ω)),some (.fz (.fl (ez ω))),some tn,none] aA->E.nx aA H')->th a E σ H:=by
 obtain ⟨nF,h2,m2⟩:∃ nF:TS,(∀ q a,PS (((tD P w K mg base Hk "_law_told" (aD lg) f (k+1)).cx q).suite (.ref a)) ((OA ((bR lg).getD 3 (.Pass ⟨0,0,0,0⟩))).getD 1 (.Pass ⟨0,0,0,0⟩)) nF)/\∀ (E:Ends) (s0 s1 s3:Option V) (H:Hp) (a:Addr),t4 c ω H a->E.nx [s0,s1,some (ez ω),s3,some (.ref a)] H->nF E [s0,s1,some .aN,s3,some (.ref a)] H:=by
  refine ⟨_,(fun q a=>i7 (D1 (fL (iq (K:=K) rfl) (by rfl) T.fe gZ (au (pv 4) (au (iw (v:=.ref c.iS) (by rfl) U.pZ rfl) aV)))) (mI (lD (i:=2) jI.nd rfl (Or.inl rfl) (V6 U.Mb.a U.hw U.nw (pv 4)))) fh),fun E s0 s1 s3 H a hw kk=>?_⟩
  have X:=EI U ω
  obtain ⟨d,he⟩:=OB hw
  cases ω with
  |made=>exact hw.elim
  |twice j =>
   obtain ⟨dx,h1,h2⟩:=hw
   exact ⟨_,rfl,a,_,_,_,d,rfl,he,X.a,(fun u r=>by cases r;exact X.r4),true,rfl,jX ⟨_,rfl,a,dx,_,rfl,h1,h2,kk⟩⟩
  |_=>exact ⟨_,rfl,a,_,_,_,d,rfl,he,X.a,(fun u r=>by cases r;exact X.r4),false,rfl,nc kk⟩
 refine ⟨fun a=>cq (hU (MD (xX K mg c a) (aT (bD 4) ck)) (dZ 1)) nF,fun q a=>bM (lD (i:=1) jI.nd rfl (Or.inl rfl) (U8 (x:=a) sW.ok rfl ((q.hr.h _).mono (by omega)) rfl sW.tP sW.kp sW.bd (au (pv (x := "_law_e") 4) aV))) (mI (h2 q a)),fun E σ G0 H0 G H a r tV hw kk=>?_⟩
 obtain ⟨fp,r⟩:=r
 have ln : σ.length=5:=by rw [<- r.own.len];rfl
 obtain ⟨s0,s1,s2,s3,s4,rfl⟩:∃ s0 s1 s2 s3 s4,σ=[s0,s1,s2,s3,s4]:=by
  match σ,ln with
  |[s0,s1,s2,s3,s4],_=>exact ⟨s0,s1,s2,s3,s4,rfl⟩
 have e4:s4=some (.ref a):=AE tV
 subst e4
 have e2:s2=some .aN:=by
  obtain ⟨v,z,hv⟩:=r.own.lY 2 dn rfl
  cases z
  rw [aB hv]
 subst e2
 have X:=EI U ω
 obtain ⟨d,he⟩:=OB hw
 have nm : ω ≠ .made:=fun z=>by subst z;exact hw
 refine ⟨_,rfl,nameOf c ω,d,EH ω,rfl,he,X,fun l H1 sm hl yU=>?_⟩
 rw [Xx nm] at yU
 show nF E [s0,some (.ref l),some .aN,s3,some (.ref a)] H1
 have hw1:t4 c ω H1 a:=by
  cases ω with
  |made=>exact hw
  |thing j=>obtain ⟨dx,h1,h2⟩:=hw;exact ⟨dx,sm _ _ h1,sm _ _ h2⟩
  |twice j=>obtain ⟨dx,h1,h2⟩:=hw;exact ⟨dx,sm _ _ h1,sm _ _ h2⟩
  |_=>exact sm _ _ hw
 refine m2 E s0 _ s3 H1 a hw1 ?_
 obtain ⟨fp2,r2⟩:=r.set (j:=1) (t:=cU (dG ω)) (v:=.ref l) (fq:=[l]) (by show 1<5;decide) ⟨ai.refl _,sm,r.st.s.trans sm,fun a h h'=>absurd h h'⟩ ⟨l,_,[],rfl,yU,Ux _,rfl⟩ ⟨fun x hx=>by rw [mT.mp hx];exact hl,fun x hx=>by rw [mT.mp hx];exact r.st.s.free hl,BB.mpr ⟨(fun z=>nomatch z),.nil⟩⟩
 exact kk _ G _ (r2.set (j:=2) (t:=.fz (.fl (ez ω))) (v:=ez ω) (fq:=[]) (by show 2<5;decide) ⟨ai.refl _,ai.refl _,r2.st.s,fun a h h'=>absurd h h'⟩ ⟨rfl,rfl,by cases ω<;>rfl⟩ ⟨fun _ z=>(nomatch z),fun _ z=>(nomatch z),.nil⟩)
inductive Rd (c:cm):Dv->eD->Prop where
 |no (d:Dv) (h:Fz d):Rd c d .text
 |bad (a:Str) (l:List Str) (R:List (List Str)) (ok:gw ((a::l)::R)) (h:kA (a::l)=true\/jj (a::l)=true\/∃ x ∈ R,ib x=true):Rd c (ds (bL ((a::l)::R))) .text
 |cw (ts:List Str) (cs:LI) (as:List Str) (os:List (List Str)) (hc:Cw ts cs as os) (h:eJ ts cs as os ≠ .made):Rd c (ds (bL (aK ts cs as os))) (eJ ts cs as os)
def yV (c:cm)(dd:List Dv)(t:Tr):Prop:=(∃ d ω,Rd c d ω/\dd=[d]/\t=.tp [cU (dG ω),.fz (.fl (ez ω)),tn])\/∃ (ts:List Str) (cs:LI) (as:List Str) (os:List (List Str)),Cw ts cs as os/\eJ ts cs as os=.made/\dd=[ds (bL (aK ts cs as os))]/\t=.tp [cU [],tn,ou ts as cs (eE ts os)]
theorem Y0 {c:cm}{d:Dv}{ω:eD}(h:Rd c d ω) : ω ≠ .made/\∀ Ξ,qI c ω=some Ξ->EV c [d] Ξ:=by
 cases h with
 |no d h=>exact ⟨(fun z=>nomatch z),fun Ξ e=>by cases e;exact .inl ⟨d,h,rfl,rfl⟩⟩
 |bad a l R ok h=>exact ⟨(fun z=>nomatch z),fun Ξ e=>by cases e;exact .inr (.inl ⟨a,l,R,ok,h,rfl,rfl⟩)⟩
 |cw ts cs as os hc h=>exact ⟨h,fun Ξ e=>.inr (.inr ⟨ts,cs,as,os,hc,rfl,e⟩)⟩
theorem SX {f f1 f2 ft fw:Addr}{fd cW fd2:FuncData}{k:Nat}{c:cm}(F:cE K "_law_told" "_law_told" lg f fd)(T:Txt mg)(U:iT K mg c ft fw)(SY:Kn P w K mg base aG (k+5) "read_table" f1 cW ["text"] (spT K OD))(Su:Kn P w K mg base (bq P w) (k+6) "read_table" f1 cW ["text"] (dP K (EV c)))(sW:Hj P w K mg base 1 "_law_classes" f2 fd2 ["_law_e"] (xX K mg c)):bc P w K mg base aG (k+7) f fd ["_law_text"] (spT K (yV c)):=by
 refine fQ F.d jI (fun dd t h=>by rcases h with ⟨_,_,_,rfl,_⟩ | ⟨_,_,_,_,_,_,rfl,_⟩<;>rfl) fun dd t h=>?_
 rcases h with ⟨d,ω,hR,rfl,rfl⟩ | ⟨ts,cs,as,os,hc,hw,rfl,rfl⟩
 ·refine ⟨_,.inl rfl,?_⟩
  refine aE (bS 1 (Ev.s (b0 ao (Cs _))) (fun _=>jI.nd)) ?_
  refine aE (bS 2 (Ev.s jP) (fun _=>jI.nd)) ?_
  refine aE (bS 3 (Ev.s jP) (fun _=>jI.nd)) ?_
  show cz _ _ [some (.fz d),some (.ow []),some tn,some tn,none] _
  obtain ⟨nm,hX⟩:=Y0 hR
  obtain ⟨Ξ,hx⟩:∃ Ξ,qI c ω=some Ξ:=by
   cases ω with
   |made=>exact absurd rfl nm
   |_=>exact ⟨_,rfl⟩
  obtain ⟨th,rh,hs⟩:=Wm (f:=f) (k:=k+5) T U sW (.fz d) ω
  refine aE (U9 (j:=3) (C:=nameOf c ω) (W:=t4 c ω) (Ξ:=Ξ) (th:=th) (ρ':=[some (.fz d),some (cU (dG ω)),some (.fz (.fl (ez ω))),some tn,none]) U.cat 4 Su (ee _) (ah (ae 0 rfl) ao) (hX Ξ hx) (Wj hx) (EI U ω).s rfl rfl rh hs (fun _=>jI.nd)) ?_
  exact aS (L6 1 2 3 (by decide) rfl rfl rfl (fun i=>og (sJ (au (pv 1) (au (pv 2) (au (pv 3) aV))))))
 ·refine ⟨_,.inl rfl,?_⟩
  refine aE (bS 1 (Ev.s (b0 ao (Cs _))) (fun _=>jI.nd)) ?_
  refine aE (bS 2 (Ev.s jP) (fun _=>jI.nd)) ?_
  refine aE (bS 3 (Ev.s jP) (fun _=>jI.nd)) ?_
  show cz _ _ [some (.fz (ds (bL (aK ts cs as os)))),some (.ow []),some tn,some tn,none] _
  refine aE (ρ1:=[some (.fz (ds (bL (aK ts cs as os)))),some (.ow []),some tn,some (ou ts as cs (eE ts os)),none]) (Ul U.cat 4 (aS (bS 3 (Ev.s (bZ SY (by show k+5<=k+6;omega) (ah (ae 0 rfl) ao) ⟨ts,cs,as,os,hc,hw,rfl,rfl⟩)) (fun _=>jI.nd))) (fun _=>jI.nd)) ?_
  exact aS (L6 1 2 3 (by decide) rfl rfl rfl (fun i=>og (sJ (au (pv 1) (au (pv 2) (au (pv 3) aV))))))
end
section
variable {P:Program}{w:World}{K:Frag}{mg:Str->Option Value}{base:Heap}
structure S5 (H:Hp) (p a0 a1 a2 a3 a4:Addr) (bs:List Addr) (ts cs as:List Str) (os:List (List Str)) (ms:List Str):Prop where
 hp:H p=some (.tup [.ref a0,.ref a1,.ref a2,.ref a3,.ref a4])
 h0:H a0=some (.lst (ts.map V.str))
 h1:H a1=some (.lst (cs.map V.str))
 h2:H a2=some (.lst (as.map V.str))
 h3:H a3=some (.lst (bs.map V.ref))
 h4:H a4=some (.lst (ms.map V.str))
 hl:bs.length=os.length
 hb:∀ i b,bs[i]?=some b->H b=some (.lst ((os.getD i []).map V.str))
 nd:(p::a0::a1::a2::a3::a4::bs).Nodup
theorem S5.mono {H H':Hp}{p a0 a1 a2 a3 a4:Addr}{bs:List Addr}{ts cs as:List Str}{os:List (List Str)}{ms:List Str}(h:S5 H p a0 a1 a2 a3 a4 bs ts cs as os ms)(e:ai H H'):S5 H' p a0 a1 a2 a3 a4 bs ts cs as os ms :=
 ⟨e _ _ h.hp,e _ _ h.h0,e _ _ h.h1,e _ _ h.h2,e _ _ h.h3,e _ _ h.h4,h.hl,fun i b hb=>e _ _ (h.hb i b hb),h.nd⟩
section
variable {H:Hp}{p a0 a1 a2 a3 a4:Addr}{bs:List Addr}{ts cs as:List Str}{os:List (List Str)}{ms:List Str}
theorem S5.ap (h:S5 H p a0 a1 a2 a3 a4 bs ts cs as os ms):((p ≠ a0/\p ≠ a1/\p ≠ a2/\p ≠ a3/\p ≠ a4/\p ∉ bs)/\(a0 ≠ a1/\a0 ≠ a2/\a0 ≠ a3/\a0 ≠ a4/\a0 ∉ bs)/\(a1 ≠ a2/\a1 ≠ a3/\a1 ≠ a4/\a1 ∉ bs)/\(a2 ≠ a3/\a2 ≠ a4/\a2 ∉ bs)/\(a3 ≠ a4/\a3 ∉ bs)/\a4 ∉ bs)/\bs.Nodup:=by
 have nd:=h.nd
 simp only [BB,gr,not_or] at nd
 obtain ⟨⟨p0,p1,p2,p3,p4,pb⟩,⟨kT,kU,kW,mj,kX⟩,⟨kQ,kR,mm,nK⟩,⟨jB,mn,kY⟩,⟨mq,mr⟩,ph,nM⟩:=nd
 exact ⟨⟨⟨p0,p1,p2,p3,p4,pb⟩,⟨kT,kU,kW,mj,kX⟩,⟨kQ,kR,mm,nK⟩,⟨jB,mn,kY⟩,⟨mq,mr⟩,ph⟩,nM⟩
theorem lR {a b:Addr}{i:Nat}(h:a ∉ bs)(hb:bs[i]?=some b):b ≠ a:=fun z=>h (z ▸ ma hb)
theorem S5.OG (h:S5 H p a0 a1 a2 a3 a4 bs ts cs as os ms)(Hf:List Str):S5 (upd H a0 (.lst (Hf.map V.str))) p a0 a1 a2 a3 a4 bs Hf cs as os ms:=by
 obtain ⟨⟨⟨p0,p1,p2,p3,p4,pb⟩,⟨kT,kU,kW,mj,kX⟩,⟨kQ,kR,mm,nK⟩,⟨jB,mn,kY⟩,⟨mq,mr⟩,ph⟩,nM⟩:=h.ap
 exact ⟨by rw [ay p0];exact h.hp,bT,by rw [ay kT.symm];exact h.h1,by rw [ay kU.symm];exact h.h2,by rw [ay kW.symm];exact h.h3,by rw [ay mj.symm];exact h.h4,h.hl,fun i b hb=>by rw [ay (lR kX hb)];exact h.hb i b hb,h.nd⟩
theorem S5.FA (h:S5 H p a0 a1 a2 a3 a4 bs ts cs as os ms)(QU:List Str):S5 (upd H a1 (.lst (QU.map V.str))) p a0 a1 a2 a3 a4 bs ts QU as os ms:=by
 obtain ⟨⟨⟨p0,p1,p2,p3,p4,pb⟩,⟨kT,kU,kW,mj,kX⟩,⟨kQ,kR,mm,nK⟩,⟨jB,mn,kY⟩,⟨mq,mr⟩,ph⟩,nM⟩:=h.ap
 exact ⟨by rw [ay p1];exact h.hp,by rw [ay kT];exact h.h0,bT,by rw [ay kQ.symm];exact h.h2,by rw [ay kR.symm];exact h.h3,by rw [ay mm.symm];exact h.h4,h.hl,fun i b hb=>by rw [ay (lR nK hb)];exact h.hb i b hb,h.nd⟩
theorem S5.FC (h:S5 H p a0 a1 a2 a3 a4 bs ts cs as os ms)(QV:List Str):S5 (upd H a2 (.lst (QV.map V.str))) p a0 a1 a2 a3 a4 bs ts cs QV os ms:=by
 obtain ⟨⟨⟨p0,p1,p2,p3,p4,pb⟩,⟨kT,kU,kW,mj,kX⟩,⟨kQ,kR,mm,nK⟩,⟨jB,mn,kY⟩,⟨mq,mr⟩,ph⟩,nM⟩:=h.ap
 exact ⟨by rw [ay p2];exact h.hp,by rw [ay kU];exact h.h0,by rw [ay kQ];exact h.h1,bT,by rw [ay jB.symm];exact h.h3,by rw [ay mn.symm];exact h.h4,h.hl,fun i b hb=>by rw [ay (lR kY hb)];exact h.hb i b hb,h.nd⟩
theorem S5.FD (h:S5 H p a0 a1 a2 a3 a4 bs ts cs as os ms)(bP:List Addr)(qR:List (List Str))(hl:bP.length=qR.length)(hb:∀ i b,bP[i]?=some b->H b=some (.lst ((qR.getD i []).map V.str)))(nd:bP.Nodup)(ap:∀ b ∈ bP,b ∈ bs\/(b ≠ p/\b ≠ a0/\b ≠ a1/\b ≠ a2/\b ≠ a3/\b ≠ a4)):S5 (upd H a3 (.lst (bP.map V.ref))) p a0 a1 a2 a3 a4 bP ts cs as qR ms:=by
 obtain ⟨⟨⟨p0,p1,p2,p3,p4,pb⟩,⟨kT,kU,kW,mj,kX⟩,⟨kQ,kR,mm,nK⟩,⟨jB,mn,kY⟩,⟨mq,mr⟩,ph⟩,nM⟩:=h.ap
 have out:∀ a,a ∉ bs->(∀ b,(b ≠ p/\b ≠ a0/\b ≠ a1/\b ≠ a2/\b ≠ a3/\b ≠ a4)->b ≠ a)->a ∉ bP:=fun a h1 h2 z=>by
  rcases ap a z with q | q
  ·exact h1 q
  ·exact h2 a q rfl
 have o3:=out a3 mr fun b q=>q.2.2.2.2.1
 refine ⟨by rw [ay p3];exact h.hp,by rw [ay kW];exact h.h0,by rw [ay kR];exact h.h1,by rw [ay jB];exact h.h2,bT,by rw [ay mq.symm];exact h.h4,hl,fun i b q=>by rw [ay (lR o3 q)];exact hb i b q,?_⟩
 simp only [BB,gr,not_or]
 exact ⟨⟨p0,p1,p2,p3,p4,out p pb fun b q=>q.1⟩,⟨kT,kU,kW,mj,out a0 kX fun b q=>q.2.1⟩,⟨kQ,kR,mm,out a1 nK fun b q=>q.2.2.1⟩,⟨jB,mn,out a2 kY fun b q=>q.2.2.2.1⟩,⟨mq,o3⟩,out a4 ph fun b q=>q.2.2.2.2.2,nd⟩
theorem S5.FE (h:S5 H p a0 a1 a2 a3 a4 bs ts cs as os ms){n:Nat}{b:Addr}(hn:bs[n]?=some b)(o:List Str):S5 (upd H b (.lst (o.map V.str))) p a0 a1 a2 a3 a4 bs ts cs as (os.set n o) ms:=by
 obtain ⟨⟨⟨p0,p1,p2,p3,p4,pb⟩,⟨kT,kU,kW,mj,kX⟩,⟨kQ,kR,mm,nK⟩,⟨jB,mn,kY⟩,⟨mq,mr⟩,ph⟩,nM⟩:=h.ap
 have ln:n<os.length:=by have:=(gz.mp hn).1;rw [h.hl] at this;exact this
 refine ⟨by rw [ay (lR pb hn).symm];exact h.hp,by rw [ay (lR kX hn).symm];exact h.h0,by rw [ay (lR nK hn).symm];exact h.h1,by rw [ay (lR kY hn).symm];exact h.h2,by rw [ay (lR mr hn).symm];exact h.h3,by rw [ay (lR ph hn).symm];exact h.h4,by rw [EN];exact h.hl,fun i c hc=>?_,h.nd⟩
 by_cases e:i=n
 ·subst e
  rw [hn] at hc
  cases hc
  rw [bT,br,EU ln];rfl
 ·have nb:c ≠ b:=fun z=>by
   subst z
   obtain ⟨l1,e1⟩:=gz.mp hc
   obtain ⟨l2,e2⟩:=gz.mp hn
   exact e ((aaa nM).mp (e1.trans e2.symm))
  rw [ay nb,br,B0 (fun z=>e z.symm),<- br]
  exact h.hb i c hc
end
def Fy (a0 a1 a2 a3:Addr)(H H':Hp)(bs bP:List Addr):Prop:=(∀ b o,H b=some o->b ∉ a0::a1::a2::a3::bs->H' b=some o)/\∀ b ∈ bP,b ∈ bs\/H b=none
theorem Fy.trans {a0 a1 a2 a3 p a4:Addr}{H H1 H2:Hp}{bs Hl Hm:List Addr}{ts cs as:List Str}{os:List (List Str)}{ms:List Str}(x:Fy a0 a1 a2 a3 H H1 bs Hl)(h1:S5 H1 p a0 a1 a2 a3 a4 Hl ts cs as os ms)(y:Fy a0 a1 a2 a3 H1 H2 Hl Hm):Fy a0 a1 a2 a3 H H2 bs Hm:=by
 refine ⟨fun b o hb hn=>y.1 b o (x.1 b o hb hn) fun z=>?_,fun b hb=>?_⟩
 ·simp only [gr,not_or] at hn z
  rcases z with z | z | z | z | z
  ·exact hn.1 z
  ·exact hn.2.1 z
  ·exact hn.2.2.1 z
  ·exact hn.2.2.2.1 z
  ·rcases x.2 b z with q | q
   ·exact hn.2.2.2.2 q
   ·rw [hb] at q;cases q
 ·rcases y.2 b hb with q | q
  ·exact x.2 b q
  ·cases hq:H b with
   |none=>exact .inr rfl
   |some o =>
    by_cases hm:b ∈ a0::a1::a2::a3::bs
    ·simp only [gr] at hm
     rcases hm with z | z | z | z | z
     ·rw [z,h1.h0] at q;cases q
     ·rw [z,h1.h1] at q;cases q
     ·rw [z,h1.h2] at q;cases q
     ·rw [z,h1.h3] at q;cases q
     ·exact .inl z
    ·rw [x.1 b o hq hm] at q;cases q
theorem Fy.same {a0 a1 a2 a3:Addr}{H H':Hp}{bs:List Addr}(e:ai H H'):Fy a0 a1 a2 a3 H H' bs bs:=⟨fun b o hb _=>e b o hb,fun b hb=>.inl hb⟩
theorem Fy.at {a0 a1 a2 a3:Addr}{H H':Hp}{bs:List Addr}(e:ai H H'){l:Addr}{o:HO}(hl:l ∈ a0::a1::a2::a3::bs):Fy a0 a1 a2 a3 H (upd H' l o) bs bs:=⟨fun b u hb hn=>by rw [ay fun z=>hn (by rw [z];exact hl)];exact e b u hb,fun b hb=>.inl hb⟩
section
variable {ι:Type}{F:aQ ι}
theorem gp {e:Expr}{ρ:En}{t:Tr}{H:Hp}{σ:St}{Q:VK}(h:Ev F e ρ t)(rp:bH F.K H ρ σ)(k:∀ v G' H' fq,Step H H G' H'->Ow F.K G' H' t v fq->Nw H G' fq->Q v H'):uE F e σ H Q:=by
 obtain ⟨τ,p,q⟩:=h
 exact ⟨τ,p,q σ H H Q (ai.refl _) rp k⟩
theorem MP {e:Expr}{ρ:En}{b:Bool}{H:Hp}{σ:St}{Q:Bool->Hp->Prop}(h:Et F e ρ b)(rp:bH F.K H ρ σ)(k:∀ G' H',Step H H G' H'->Q b H'):uT F e σ H Q:=by
 obtain ⟨τ,p,q⟩:=h
 exact ⟨τ,p,q σ H H Q (ai.refl _) rp k⟩
theorem ku {c:Expr}{ρ:En}{A B:TS}{D:Ends}{H:Hp}{σ:St}(h:Et F c ρ false)(rp:bH F.K H ρ σ)(k:∀ H',ai H H'->B D σ H'):gN (uT F c) A B D σ H:=MP h rp fun G' H' st=>nc (k H' st.h)
theorem mS {c:Expr}{ρ:En}{A B:TS}{D:Ends}{H:Hp}{σ:St}(h:Et F c ρ true)(rp:bH F.K H ρ σ)(k:∀ H',ai H H'->A D σ H'):gN (uT F c) A B D σ H:=MP h rp fun G' H' st=>jX (k H' st.h)
end
theorem kj {K:Frag}{H:Hp}{a:Addr}{ws:List Str}(h:H a=some (.lst (ws.map V.str))):Hv K H (ag ws) (.ref a):=by
 refine ⟨a,_,rfl,aF.of h,?_⟩
 clear h
 induction ws with
 |nil=>rfl
 |cons w ws ih=>exact ⟨_,_,rfl,⟨rfl,rfl⟩,ih⟩
theorem uW {K:Frag}{H:Hp}:∀ {bs:List Addr} {os:List (List Str)},bs.length=os.length->(∀ i b,bs[i]?=some b->H b=some (.lst ((os.getD i []).map V.str)))->aU K H (os.map ag) (bs.map V.ref)
 |[],[],_,_=>rfl
 |[],_::_,h,_=>by cases h
 |_::_,[],h,_=>by cases h
 |b::bs,o::os,h,hb=>⟨_,_,rfl,kj (hb 0 b rfl),uW (abN h) fun i c hc=>hb (i+1) c hc⟩
abbrev QW (fa ce n:Int)(ts cs as:List Str)(os:List (List Str))(ms:List Str):En:=[none,some (ti fa),some (ti ce),some (.fz (ag ts)),some (.fz (ag cs)),some (.fz (ag as)),some (.fz (.lst (os.map ag))),some (.fz (ag ms)),some (ti n)]
abbrev gf (p:Addr)(fa ce n:Int)(a0 a1 a2 a3 a4:Addr):St:=[some (.ref p),some (.int fa),some (.int ce),some (.ref a0),some (.ref a1),some (.ref a2),some (.ref a3),some (.ref a4),some (.int n)]
theorem S5.rp {H:Hp}{p a0 a1 a2 a3 a4:Addr}{bs:List Addr}{ts cs as:List Str}{os:List (List Str)}{ms:List Str}(h:S5 H p a0 a1 a2 a3 a4 bs ts cs as os ms)(fa ce n:Int):bH K H (QW fa ce n ts cs as os ms) (gf p fa ce n a0 a1 a2 a3 a4):=fun j d hd=>by
 match j,hd with
 |1,hd=>cases hd;exact ⟨_,rfl,rfl,rfl⟩
 |2,hd=>cases hd;exact ⟨_,rfl,rfl,rfl⟩
 |3,hd=>cases hd;exact ⟨_,rfl,kj h.h0⟩
 |4,hd=>cases hd;exact ⟨_,rfl,kj h.h1⟩
 |5,hd=>cases hd;exact ⟨_,rfl,kj h.h2⟩
 |6,hd=>cases hd;exact ⟨_,rfl,a3,_,rfl,aF.of h.h3,uW h.hl h.hb⟩
 |7,hd=>cases hd;exact ⟨_,rfl,kj h.h4⟩
 |8,hd=>cases hd;exact ⟨_,rfl,rfl,rfl⟩
 |n+9,hd=>cases hd
end
section
variable {P:Program}{w:World}{K:Frag}{mg:Str->Option Value}{base:Heap}
structure Lq where
 ts:List Str
 cs:List Str
 as:List Str
 os:List (List Str)
def qK (o:List Str)(i:Nat)(y:Str):List Str:=o.take i++y::o.drop i
def g1 (fa ce:Int)(n:Nat)(ms:List Str)(x:Lq):Lq:=if fa=1 then { x with os:=x.os.set n (qK (x.os.getD n []) (ce / 7 % (((x.os.getD n []).length:Int)+1)).toNat (ms.getD 0 "")) } else x
def g2 (fa ce:Int)(n:Nat)(x:Lq):Lq:=if fa=2 then (if x.ts ≠ []/\ce % 2=0 then { x with ts:=x.ts++[x.ts.getD (ce / 2 % (x.ts.length:Int)).toNat ""],cs:=x.cs++[("2" : Str)] } else { x with as:=x.as++[x.as.getD n ""],os:=x.os++[[]] }) else x
def g3 (fa ce:Int)(ms:List Str)(x:Lq):Lq:=if fa=3 then (if ce % 2=0 then { x with ts:=x.ts++ms.drop 1,cs:=x.cs++(ms.drop 1).map fun _=>("1" : Str) } else { x with as:=x.as++ms.drop 1,os:=x.os++(ms.drop 1).map fun _=>[] }) else x
def g4 (fa:Int)(x:Lq):Lq:=if fa=4 then { x with as:=[],os:=[] } else x
def g5 (fa ce:Int)(x:Lq):Lq:=if fa=5/\x.cs ≠ [] then { x with cs:=x.cs.set (ce % (x.cs.length:Int)).toNat (aO (10+ce / 7 % (10 ^ 9-10))) } else x
def g6 (fa ce:Int)(n:Nat)(x:Lq):Lq:=if fa=6/\x.ts ≠ [] then { x with os:=x.os.set n (x.ts.getD (ce / 7 % (x.ts.length:Int)).toNat "" :: (x.os.getD n []++[x.ts.getD (ce / 7 % (x.ts.length:Int)).toNat ""])) } else x
abbrev SL (H:Hp)(p a0 a1 a2 a3 a4:Addr)(bs:List Addr)(x:Lq)(ms:List Str):Prop:=S5 H p a0 a1 a2 a3 a4 bs x.ts x.cs x.as x.os ms
abbrev vL (fa ce:Int)(n:Nat)(x:Lq)(ms:List Str):En:=QW fa ce (n:Int) x.ts x.cs x.as x.os ms
theorem sD {H:Hp}{p a0 a1 a2 a3 a4:Addr}{bs:List Addr}{x:Lq}{ms:List Str}(h:SL H p a0 a1 a2 a3 a4 bs x ms){n:Nat}(hn:n<x.os.length):∃ b,bs[n]?=some b/\cC (bs.map V.ref) (n:Int)=some (.ref b)/\H b=some (.lst ((x.os.getD n []).map V.str)):=by
 have hl:n<bs.length:=by rw [h.hl];exact hn
 have e:bs[n]?=some bs[n]:=ar hl
 exact ⟨bs[n],e,gx (by rw [i4,e];rfl),h.hb n _ e⟩
section
variable {ι:Type}{F:aQ ι}{c c2 e1 e2 e3 e4:Expr}{D:Ends}{H:Hp}{p a0 a1 a2 a3 a4:Addr}{bs:List Addr}{x:Lq}{ms:List Str}{fa ce:Int}{n:Nat}
theorem Y1 (h:SL H p a0 a1 a2 a3 a4 bs x ms)(hn:n<x.os.length)(hz:(x.os.getD n []).length<900)(hc:Et F c (vL fa ce n x ms) (decide (fa=1)))(h1:Ev F e1 (vL fa ce n x ms) (ti (ce / 7 % (((x.os.getD n []).length:Int)+1))))(h2:Ev F e2 (vL fa ce n x ms) (tx (ms.getD 0 "")))(k:∀ H' bP,SL H' p a0 a1 a2 a3 a4 bP (g1 fa ce n ms x) ms->Fy a0 a1 a2 a3 H H' bs bP->D.nx (gf p fa ce n a0 a1 a2 a3 a4) H') :
  gN (uT F c) (cq (fk (eO F.K "list" xm (iX (qB F.K) (bD 6) (bD 8)) (aT (uE F e1) (aT (uE F e2) ck)))) fP) fP D (gf p fa ce n a0 a1 a2 a3 a4) H:=by
 unfold g1 at k
 by_cases e:fa=1
 ·rw [Cn e] at k
  rw [zw e] at hc
  refine mS hc (h.rp fa ce n) fun H1 s1=>?_
  have h':=h.mono s1
  obtain ⟨b,hb,at_,hH⟩:=sD h' hn
  refine ⟨.ref a3,rfl,.int n,rfl,a3,_,n,.ref b,rfl,rfl,aF.of h'.h3,at_,.inl ⟨rfl,_,aF.of hH⟩,gp h1 (h'.rp fa ce n) fun v1 G2 H2 f2 bO o2 _=>?_⟩
  have me:=h'.mono bO.h
  refine gp h2 (me.rp fa ce n) fun v2 G3 H3 f3 fE o3 _=>?_
  have nN:v1=.int (ce / 7 % (((x.os.getD n []).length:Int)+1)):=aB o2.2
  have iL:v2=.str (ms.getD 0 ""):=aB o3.2
  subst nN iL
  have h3:=me.mono fE.h
  obtain ⟨b',fH,_,hH'⟩:=sD h3 hn
  rw [hb] at fH
  cases fH
  have i0:=BN (ce / 7) (show ((x.os.getD n []).length:Int)+1 ≠ 0 by omega)
  have i1:=AL (ce / 7) (show (0:Int)<((x.os.getD n []).length:Int)+1 by omega)
  refine ⟨b,_,_,_,rfl,rfl,hH',i0,by rw [aa];omega,by rw [aa];omega,?_⟩
  have:=h3.FE hb (qK (x.os.getD n []) (ce / 7 % (((x.os.getD n []).length:Int)+1)).toNat (ms.getD 0 ""))
  unfold qK at this
  rw [Cf,ES,acK,Zp] at this
  exact k _ bs this (Fy.at ((s1.trans bO.h).trans fE.h) (.tail _ (.tail _ (.tail _ (.tail _ (ma hb))))))
 ·rw [AM e] at k
  rw [uu e] at hc
  exact ku hc (h.rp fa ce n) fun H1 s1=>k H1 bs (h.mono s1) (Fy.same s1)
theorem Y2 (h:SL H p a0 a1 a2 a3 a4 bs x ms)(hc:Et F c (vL fa ce n x ms) (decide (fa=4)))(k:∀ H' bP,SL H' p a0 a1 a2 a3 a4 bP (g4 fa x) ms->Fy a0 a1 a2 a3 H H' bs bP->D.nx (gf p fa ce n a0 a1 a2 a3 a4) H') :
  gN (uT F c) (cq (fk (Ff F.K "list" D6 (bD 5))) (cq (fk (Ff F.K "list" D6 (bD 6))) fP)) fP D (gf p fa ce n a0 a1 a2 a3 a4) H:=by
 unfold g4 at k
 by_cases e:fa=4
 ·rw [Cn e] at k
  rw [zw e] at hc
  refine mS hc (h.rp fa ce n) fun H1 s1=>?_
  have h1:=h.mono s1
  refine ⟨.ref a2,rfl,.inl ⟨rfl,_,aF.of h1.h2⟩,a2,_,rfl,rfl,h1.h2,?_⟩
  have h2:=h1.FC []
  refine ⟨.ref a3,rfl,.inl ⟨rfl,_,aF.of h2.h3⟩,a3,_,rfl,rfl,h2.h3,?_⟩
  have h3:=h2.FD [] [] rfl (fun i b q=>by cases q) .nil (fun b hb=>nomatch hb)
  exact k _ [] h3 ⟨fun b o hb hn=>by
   rw [ay fun z=>hn (by rw [z];simp),ay fun z=>hn (by rw [z];simp)]
   exact s1 b o hb,fun b hb=>nomatch hb⟩
 ·rw [AM e] at k
  rw [uu e] at hc
  exact ku hc (h.rp fa ce n) fun H1 s1=>k H1 bs (h.mono s1) (Fy.same s1)
theorem Y3 (h:SL H p a0 a1 a2 a3 a4 bs x ms)(hc:Et F c (vL fa ce n x ms) (decide (fa=5)&&decide (x.cs ≠ [])))(h1:x.cs ≠ []->Ev F e1 (vL fa ce n x ms) (ti (ce % (x.cs.length:Int))))(h2:Ev F e2 (vL fa ce n x ms) (tx (aO (10+ce / 7 % (10 ^ 9-10)))))(k:∀ H' bP,SL H' p a0 a1 a2 a3 a4 bP (g5 fa ce x) ms->Fy a0 a1 a2 a3 H H' bs bP->D.nx (gf p fa ce n a0 a1 a2 a3 a4) H') :
  gN (uT F c) (cq (hU (uE F e2) (yd (bD 4) (uE F e1) xP)) fP) fP D (gf p fa ce n a0 a1 a2 a3 a4) H:=by
 unfold g5 at k
 by_cases e:fa=5/\x.cs ≠ []
 ·rw [Cn e] at k
  rw [zw e.1,zw e.2] at hc
  refine mS hc (h.rp fa ce n) fun H1 s1=>?_
  have h':=h.mono s1
  refine gp h2 (h'.rp fa ce n) fun v1 G2 H2 f2 bO o2 _=>?_
  have me:=h'.mono bO.h
  refine ⟨.ref a1,rfl,gp (h1 e.2) (me.rp fa ce n) fun v2 G3 H3 f3 fE o3 _=>?_⟩
  have nN:v1=.str (aO (10+ce / 7 % (10 ^ 9-10))):=aB o2.2
  have iL:v2=.int (ce % (x.cs.length:Int)):=aB o3.2
  subst nN iL
  have h3:=me.mono fE.h
  have hp : 0<x.cs.length:=LF.mpr e.2
  have i0:=BN ce (show (x.cs.length:Int) ≠ 0 by omega)
  have i1:=AL ce (show (0:Int)<x.cs.length by omega)
  refine ⟨a1,_,_,(ce % (x.cs.length:Int)).toNat,rfl,rfl,h3.h1,by rw [aa];unfold iY;rw [Cn i0,Cn (by omega)],?_⟩
  have:=h3.FA (x.cs.set (ce % (x.cs.length:Int)).toNat (aO (10+ce / 7 % (10 ^ 9-10))))
  rw [abO] at this
  exact k _ bs this (Fy.at ((s1.trans bO.h).trans fE.h) (.tail _ (.head _)))
 ·rw [AM e] at k
  have:(decide (fa=5)&&decide (x.cs ≠ []))=false:=by
   cases hb:(decide (fa=5)&&decide (x.cs ≠ [])) with
   |false=>rfl
   |true =>
    rw [DD,Pe,Pe] at hb
    exact absurd hb e
  rw [this] at hc
  exact ku hc (h.rp fa ce n) fun H1 s1=>k H1 bs (h.mono s1) (Fy.same s1)
theorem Y4 (h:SL H p a0 a1 a2 a3 a4 bs x ms)(vO:fa=6->n<x.os.length)(Qx:fa=6->(x.os.getD n []).length<900)(hc:Et F c (vL fa ce n x ms) (decide (fa=6)&&decide (x.ts ≠ [])))(h1:∀ os,x.ts ≠ []->Ev F e1 (vL fa ce n { x with os:=os } ms) (tx (x.ts.getD (ce / 7 % (x.ts.length:Int)).toNat "")))(h2:∀ os,x.ts ≠ []->Ev F e2 (vL fa ce n { x with os:=os } ms) (ti 0))(h3:∀ os,x.ts ≠ []->Ev F e3 (vL fa ce n { x with os:=os } ms) (tx (x.ts.getD (ce / 7 % (x.ts.length:Int)).toNat "")))(k:∀ H' bP,SL H' p a0 a1 a2 a3 a4 bP (g6 fa ce n x) ms->Fy a0 a1 a2 a3 H H' bs bP->D.nx (gf p fa ce n a0 a1 a2 a3 a4) H') :
  gN (uT F c) (cq (fk (eO F.K "list" lC (iX (qB F.K) (bD 6) (bD 8)) (aT (uE F e1) ck))) (cq (fk (eO F.K "list" xm (iX (qB F.K) (bD 6) (bD 8)) (aT (uE F e2) (aT (uE F e3) ck)))) fP)) fP D (gf p fa ce n a0 a1 a2 a3 a4) H:=by
 unfold g6 at k
 have big : 1000<sizeLine:=by decide
 by_cases e:fa=6/\x.ts ≠ []
 ·have hn:=vO e.1
  have hz:=Qx e.1
  rw [Cn e] at k
  rw [zw e.1,zw e.2] at hc
  refine mS hc (h.rp fa ce n) fun H1 s1=>?_
  have h':=h.mono s1
  obtain ⟨b,hb,at_,hH⟩:=sD h' hn
  generalize hy:x.ts.getD (ce / 7 % (x.ts.length:Int)).toNat "" = y at h1 h3 k
  refine ⟨.ref a3,rfl,.int n,rfl,a3,_,n,.ref b,rfl,rfl,aF.of h'.h3,at_,.inl ⟨rfl,_,aF.of hH⟩,gp (h1 x.os e.2) (h'.rp fa ce n) fun v1 G2 H2 f2 bO o2 _=>?_⟩
  have nN:v1=.str y:=aB o2.2
  subst nN
  have eP:=h'.mono bO.h
  obtain ⟨b',fH,_,hH2⟩:=sD eP hn
  rw [hb] at fH
  cases fH
  refine ⟨b,_,_,rfl,rfl,hH2,by rw [aa];omega,?_⟩
  have hs:=eP.FE hb (x.os.getD n []++[y])
  rw [Cf] at hs
  have gs:(x.os.set n (x.os.getD n []++[y])).getD n []=x.os.getD n []++[y]:=by rw [br,EU hn];rfl
  have bu:SL _ p a0 a1 a2 a3 a4 bs { x with os:=x.os.set n (x.os.getD n []++[y]) } ms:=hs
  have f1:Fy a0 a1 a2 a3 H _ bs bs:=Fy.at (o:=.lst (List.map V.str (x.os.getD n [])++List.map V.str [y])) (s1.trans bO.h) (.tail _ (.tail _ (.tail _ (.tail _ (ma hb)))))
  show eO F.K "list" xm (iX (qB F.K) (bD 6) (bD 8)) (aT (uE F e2) (aT (uE F e3) ck)) (gf p fa ce n a0 a1 a2 a3 a4) (upd H2 b (.lst (List.map V.str (x.os.getD n [])++List.map V.str [y]))) _
  generalize upd H2 b (.lst (List.map V.str (x.os.getD n [])++List.map V.str [y]))=H4 at bu f1
  obtain ⟨b',fH,at',hH4⟩:=sD bu (n:=n) (by rw [EN];exact hn)
  rw [hb] at fH
  cases fH
  refine ⟨.ref a3,rfl,.int n,rfl,a3,_,n,.ref b,rfl,rfl,aF.of bu.h3,at',.inl ⟨rfl,_,aF.of hH4⟩,gp (h2 _ e.2) (bu.rp fa ce n) fun v5 G5 H5 f5 cL o5 _=>?_⟩
  have h5:=bu.mono cL.h
  refine gp (h3 _ e.2) (h5.rp fa ce n) fun v6 G6 H6 f6 yW o6 _=>?_
  have e5:v5=.int 0:=aB o5.2
  have e6:v6=.str y:=aB o6.2
  subst e5 e6
  have h6:=h5.mono yW.h
  obtain ⟨b',fH,_,QX⟩:=sD h6 (n:=n) (by rw [EN];exact hn)
  rw [hb] at fH
  cases fH
  rw [gs] at QX
  refine ⟨b,_,_,_,rfl,rfl,QX,Int.le_refl _,by rw [aa];omega,by rw [aa,ir,ach];omega,?_⟩
  have hf:=h6.FE hb (y::(x.os.getD n []++[y]))
  rw [acT] at hf
  refine k _ bs hf (Fy.trans f1 bu (Fy.at (cL.h.trans yW.h) (.tail _ (.tail _ (.tail _ (.tail _ (ma hb)))))))
 ·rw [AM e] at k
  have:(decide (fa=6)&&decide (x.ts ≠ []))=false:=by
   cases hb:(decide (fa=6)&&decide (x.ts ≠ [])) with
   |false=>rfl
   |true =>
    rw [DD,Pe,Pe] at hb
    exact absurd hb e
  rw [this] at hc
  exact ku hc (h.rp fa ce n) fun H1 s1=>k H1 bs (h.mono s1) (Fy.same s1)
theorem Y5 (h:SL H p a0 a1 a2 a3 a4 bs x ms)(hs:x.ts.length<900/\x.cs.length<900/\x.as.length<900/\x.os.length<900)(hc:Et F c (vL fa ce n x ms) (decide (fa=2)&&(decide (x.ts ≠ [])&&decide (ce % 2=0))))(kN:Et F c2 (vL fa ce n x ms) (decide (fa=2)))(h1:x.ts ≠ []->Ev F e1 (vL fa ce n x ms) (tx (x.ts.getD (ce / 2 % (x.ts.length:Int)).toNat "")))(h2:∀ ts,Ev F e2 (vL fa ce n { x with ts:=ts } ms) (tx "2"))(h3:Ev F e3 (vL fa ce n x ms) (tx (x.as.getD n "")))(h4:∀ as,Ev F e4 (vL fa ce n { x with as:=as } ms) (.ow []))(k:∀ H' bP,SL H' p a0 a1 a2 a3 a4 bP (g2 fa ce n x) ms->Fy a0 a1 a2 a3 H H' bs bP->D.nx (gf p fa ce n a0 a1 a2 a3 a4) H') :
  gN (uT F c) (cq (fk (eO F.K "list" lC (bD 3) (aT (uE F e1) ck))) (cq (fk (eO F.K "list" lC (bD 4) (aT (uE F e2) ck))) fP)) (cq (gN (uT F c2) (cq (fk (eO F.K "list" lC (bD 5) (aT (uE F e3) ck))) (cq (fk (eO F.K "list" lC (bD 6) (aT (uE F e4) ck))) fP)) fP) fP) D (gf p fa ce n a0 a1 a2 a3 a4) H:=by
 unfold g2 at k
 have big : 1000<sizeLine:=by decide
 by_cases e:fa=2
 ·rw [Cn e] at k
  rw [zw e] at hc kN
  by_cases iL:x.ts ≠ []/\ce % 2=0
  ·rw [Cn iL] at k
   rw [zw iL.1,zw iL.2] at hc
   refine mS hc (h.rp fa ce n) fun H1 s1=>?_
   have h':=h.mono s1
   generalize hy:x.ts.getD (ce / 2 % (x.ts.length:Int)).toNat "" = y at h1 k
   refine ⟨.ref a0,rfl,.inl ⟨rfl,_,aF.of h'.h0⟩,gp (h1 iL.1) (h'.rp fa ce n) fun v1 G2 H2 f2 bO o2 _=>?_⟩
   have nN:v1=.str y:=aB o2.2
   subst nN
   have eP:=h'.mono bO.h
   refine ⟨a0,_,_,rfl,rfl,eP.h0,by rw [aa];omega,?_⟩
   have kZ:=eP.OG (x.ts++[y])
   rw [Cf] at kZ
   have bu:SL _ p a0 a1 a2 a3 a4 bs { x with ts:=x.ts++[y] } ms:=kZ
   have f1:Fy a0 a1 a2 a3 H _ bs bs:=Fy.at (o:=.lst (List.map V.str x.ts++List.map V.str [y])) (s1.trans bO.h) (.head _)
   show eO F.K "list" lC (bD 4) (aT (uE F e2) ck) (gf p fa ce n a0 a1 a2 a3 a4) (upd H2 a0 (.lst (List.map V.str x.ts++List.map V.str [y]))) _
   generalize upd H2 a0 (.lst (List.map V.str x.ts++List.map V.str [y]))=H4 at bu f1
   refine ⟨.ref a1,rfl,.inl ⟨rfl,_,aF.of bu.h1⟩,gp (h2 _) (bu.rp fa ce n) fun v5 G5 H5 f5 cL o5 _=>?_⟩
   have e5:v5=.str "2" := aB o5.2
   subst e5
   have h5:=bu.mono cL.h
   refine ⟨a1,_,_,rfl,rfl,h5.h1,by rw [aa];show x.cs.length<_;omega,?_⟩
   have hf:=h5.FA (x.cs++[("2" : Str)])
   rw [Cf] at hf
   exact k _ bs hf (Fy.trans f1 bu (Fy.at cL.h (.tail _ (.head _))))
  ·rw [AM iL] at k
   have:(true&&(decide (x.ts ≠ [])&&decide (ce % 2=0)))=false:=by
    cases hb:(decide (x.ts ≠ [])&&decide (ce % 2=0)) with
    |false=>rfl
    |true =>
     rw [DD,Pe,Pe] at hb
     exact absurd hb iL
   rw [this] at hc
   refine ku hc (h.rp fa ce n) fun H0 s0=>?_
   have Hn:=h.mono s0
   refine mS kN (Hn.rp fa ce n) fun H1 yO=>?_
   have s1:=s0.trans yO
   have h':=h.mono s1
   generalize hy:x.as.getD n "" = y at h3 k
   refine ⟨.ref a2,rfl,.inl ⟨rfl,_,aF.of h'.h2⟩,gp h3 (h'.rp fa ce n) fun v1 G2 H2 f2 bO o2 _=>?_⟩
   have nN:v1=.str y:=aB o2.2
   subst nN
   have eP:=h'.mono bO.h
   refine ⟨a2,_,_,rfl,rfl,eP.h2,by rw [aa];omega,?_⟩
   have kZ:=eP.FC (x.as++[y])
   rw [Cf] at kZ
   have bu:SL _ p a0 a1 a2 a3 a4 bs { x with as:=x.as++[y] } ms:=kZ
   have f1:Fy a0 a1 a2 a3 H _ bs bs:=Fy.at (o:=.lst (List.map V.str x.as++List.map V.str [y])) (s1.trans bO.h) (.tail _ (.tail _ (.head _)))
   show eO F.K "list" lC (bD 6) (aT (uE F e4) ck) (gf p fa ce n a0 a1 a2 a3 a4) (upd H2 a2 (.lst (List.map V.str x.as++List.map V.str [y]))) _
   generalize upd H2 a2 (.lst (List.map V.str x.as++List.map V.str [y]))=H4 at bu f1
   refine ⟨.ref a3,rfl,.inl ⟨rfl,_,aF.of bu.h3⟩,gp (h4 _) (bu.rp fa ce n) fun v5 G5 H5 f5 cL o5 w5=>?_⟩
   obtain ⟨b,vs,fq,rfl,hb,ol,rfl⟩:=o5
   obtain ⟨rfl,rfl⟩:=ol
   have h5:=bu.mono cL.h
   have wg:=h5.hl
   refine ⟨a3,_,_,rfl,rfl,h5.h3,by rw [aa];show bs.length<_;rw [bu.hl];show x.os.length<_;omega,?_⟩
   have fresh:∀ {c:Addr} {o:HO},H4 c=some o->b ≠ c:=fun {c o} q z=>by
    have:=w5.n b (.head _)
    rw [z,q] at this;cases this
   have nb:b ∉ bs:=fun z=>by
    obtain ⟨i,hi⟩:=List.getElem?_of_mem z
    exact fresh (bu.hb i b hi) rfl
   have hf:=h5.FD (bs++[b]) (x.os++[[]]) (by rw [ir,ir,wg];rfl) (fun i c hc=>?_) (ue.mpr ⟨bu.ap.2,BB.mpr ⟨(fun z=>nomatch z),.nil⟩,fun c hc d hd z=>nb (by rw [<- mT.mp hd,<- z];exact hc)⟩) (fun c hc=>?_)
   ·rw [Cf] at hf
    refine k _ (bs++[b]) hf (Fy.trans f1 bu ⟨fun c o hc hn=>?_,fun c hc=>?_⟩)
    ·rw [ay fun z=>hn (by rw [z];simp)]
     exact cL.h c o hc
    ·rcases ij.mp hc with z | z
     ·exact .inl z
     ·right
      rw [mT.mp z]
      exact w5.n b (.head _)
   ·by_cases hi:i<bs.length
    ·rw [IF hi] at hc
     have:=h5.hb i c hc
     rw [br,IF (by rw [<- wg];exact hi),<- br]
     exact this
    ·rw [BS (by omega)] at hc
     have G8:i=bs.length:=by
      have:=(gz.mp hc).1
      simp at this
      omega
     subst G8
     rw [acE] at hc
     cases hc
     rw [br,wg,BS (ee _),acE]
     exact hb
   ·rcases ij.mp hc with z | z
    ·exact .inl z
    ·right
     rw [mT.mp z]
     exact ⟨fresh bu.hp,fresh bu.h0,fresh bu.h1,fresh bu.h2,fresh bu.h3,fresh bu.h4⟩
 ·rw [AM e] at k
  rw [uu e] at hc kN
  refine ku hc (h.rp fa ce n) fun H1 s1=>?_
  have h':=h.mono s1
  exact ku kN (h'.rp fa ce n) fun H2 s2=>k H2 bs (h'.mono s2) (Fy.same (s1.trans s2))
theorem UK (ws:List Str):Nr (ws.map V.str)=ws.map tx:=by
 show List.map _ (List.map _ _)=_
 rw [qr];rfl
theorem n5 {K:Frag}{G H:Hp}{ws:List Str}{vs:List V}{fq:List Addr}(h:aM K G H (ws.map tx) vs fq):vs=ws.map V.str/\fq=[]:=by
 rw [<- UK] at h
 obtain ⟨e1,e2,_⟩:=J9 h
 exact ⟨e1,e2⟩
theorem Jz {K:Frag}{G H:Hp}{α:Type}:∀ {l:List α} {vs:List V} {fq:List Addr},aM K G H (l.map fun _=>Tr.ow []) vs fq->vs=fq.map V.ref/\fq.length=l.length/\∀ c ∈ fq,H c=some (.lst [])
 |[],_,_,⟨h1,h2⟩=>by subst h1 h2;exact ⟨rfl,rfl,fun c hc=>nomatch hc⟩
 |_::l,_,_,⟨v,r,f1,f2,h1,h2,h3,h4⟩=>by
  obtain ⟨a,ws,f0,e1,e2,e3,e4⟩:=h3
  obtain ⟨e5,e6⟩:=e3
  obtain ⟨q1,q2,q3⟩:=Jz h4
  subst h1 h2 e1 e4 e5 e6 q1
  refine ⟨rfl,by simp [q2],fun c hc=>?_⟩
  rcases gr.mp hc with rfl | z
  ·exact e2
  ·exact q3 c z
theorem Y6 (h:SL H p a0 a1 a2 a3 a4 bs x ms)(hs:x.ts.length+ms.length<900/\x.cs.length+ms.length<900/\x.as.length+ms.length<900/\x.os.length+ms.length<900)(hc:Et F c (vL fa ce n x ms) (decide (fa=3)&&decide (ce % 2=0)))(kN:Et F c2 (vL fa ce n x ms) (decide (fa=3)))(h1:Ev F e1 (vL fa ce n x ms) (.ow ((ms.drop 1).map tx)))(h2:∀ ts,Ev F e2 (vL fa ce n { x with ts:=ts } ms) (.ow (((ms.drop 1).map fun _=>("1" : Str)).map tx)))(h3:Ev F e3 (vL fa ce n x ms) (.ow ((ms.drop 1).map tx)))(h4:∀ as,Ev F e4 (vL fa ce n { x with as:=as } ms) (.ow ((ms.drop 1).map fun _=>Tr.ow [])))(k:∀ H' bP,SL H' p a0 a1 a2 a3 a4 bP (g3 fa ce ms x) ms->Fy a0 a1 a2 a3 H H' bs bP->D.nx (gf p fa ce n a0 a1 a2 a3 a4) H') :
  gN (uT F c) (cq (fk (eO F.K "list" nV (bD 3) (aT (uE F e1) ck))) (cq (fk (eO F.K "list" nV (bD 4) (aT (uE F e2) ck))) fP)) (cq (gN (uT F c2) (cq (fk (eO F.K "list" nV (bD 5) (aT (uE F e3) ck))) (cq (fk (eO F.K "list" nV (bD 6) (aT (uE F e4) ck))) fP)) fP) fP) D (gf p fa ce n a0 a1 a2 a3 a4) H:=by
 unfold g3 at k
 have big : 1000<sizeLine:=by decide
 have dl:(ms.drop 1).length<=ms.length:=by rw [EO];omega
 by_cases e:fa=3
 ·rw [Cn e] at k
  rw [zw e] at hc kN
  by_cases iL:ce % 2=0
  ·rw [Cn iL] at k
   rw [zw iL] at hc
   refine mS hc (h.rp fa ce n) fun H1 s1=>?_
   have h':=h.mono s1
   refine ⟨.ref a0,rfl,.inl ⟨rfl,_,aF.of h'.h0⟩,gp h1 (h'.rp fa ce n) fun v1 G2 H2 f2 bO o2 _=>?_⟩
   obtain ⟨b,vs,fq,rfl,hb,ol,rfl⟩:=o2
   obtain ⟨rfl,rfl⟩:=n5 ol
   have eP:=h'.mono bO.h
   refine ⟨a0,b,_,_,rfl,rfl,eP.h0,hb,by rw [aa,aa];omega,?_⟩
   have kZ:=eP.OG (x.ts++ms.drop 1)
   rw [Cf] at kZ
   have bu:SL _ p a0 a1 a2 a3 a4 bs { x with ts:=x.ts++ms.drop 1 } ms:=kZ
   have f1:Fy a0 a1 a2 a3 H _ bs bs:=Fy.at (o:=.lst (List.map V.str x.ts++List.map V.str (ms.drop 1))) (s1.trans bO.h) (.head _)
   show eO F.K "list" nV (bD 4) (aT (uE F e2) ck) (gf p fa ce n a0 a1 a2 a3 a4) (upd H2 a0 (.lst (List.map V.str x.ts++List.map V.str (ms.drop 1)))) _
   generalize upd H2 a0 (.lst (List.map V.str x.ts++List.map V.str (ms.drop 1)))=H4 at bu f1
   refine ⟨.ref a1,rfl,.inl ⟨rfl,_,aF.of bu.h1⟩,gp (h2 _) (bu.rp fa ce n) fun v5 G5 H5 f5 cL o5 _=>?_⟩
   obtain ⟨b5,vs5,fq5,rfl,Ho,Hq,rfl⟩:=o5
   obtain ⟨rfl,rfl⟩:=n5 Hq
   have h5:=bu.mono cL.h
   refine ⟨a1,b5,_,_,rfl,rfl,h5.h1,Ho,by rw [aa,aa,aa];show x.cs.length+_<=_;omega,?_⟩
   have hf:=h5.FA (x.cs++(ms.drop 1).map fun _=>("1" : Str))
   rw [Cf] at hf
   exact k _ bs hf (Fy.trans f1 bu (Fy.at cL.h (.tail _ (.head _))))
  ·rw [AM iL] at k
   rw [uu iL] at hc
   refine ku hc (h.rp fa ce n) fun H0 s0=>?_
   have Hn:=h.mono s0
   refine mS kN (Hn.rp fa ce n) fun H1 yO=>?_
   have s1:=s0.trans yO
   have h':=h.mono s1
   refine ⟨.ref a2,rfl,.inl ⟨rfl,_,aF.of h'.h2⟩,gp h3 (h'.rp fa ce n) fun v1 G2 H2 f2 bO o2 _=>?_⟩
   obtain ⟨b,vs,fq,rfl,hb,ol,rfl⟩:=o2
   obtain ⟨rfl,rfl⟩:=n5 ol
   have eP:=h'.mono bO.h
   refine ⟨a2,b,_,_,rfl,rfl,eP.h2,hb,by rw [aa,aa];omega,?_⟩
   have kZ:=eP.FC (x.as++ms.drop 1)
   rw [Cf] at kZ
   have bu:SL _ p a0 a1 a2 a3 a4 bs { x with as:=x.as++ms.drop 1 } ms:=kZ
   have f1:Fy a0 a1 a2 a3 H _ bs bs:=Fy.at (o:=.lst (List.map V.str x.as++List.map V.str (ms.drop 1))) (s1.trans bO.h) (.tail _ (.tail _ (.head _)))
   show eO F.K "list" nV (bD 6) (aT (uE F e4) ck) (gf p fa ce n a0 a1 a2 a3 a4) (upd H2 a2 (.lst (List.map V.str x.as++List.map V.str (ms.drop 1)))) _
   generalize upd H2 a2 (.lst (List.map V.str x.as++List.map V.str (ms.drop 1)))=H4 at bu f1
   refine ⟨.ref a3,rfl,.inl ⟨rfl,_,aF.of bu.h3⟩,gp (h4 _) (bu.rp fa ce n) fun v5 G5 H5 f5 cL o5 w5=>?_⟩
   obtain ⟨b5,vs5,yX,rfl,Ho,Hq,rfl⟩:=o5
   obtain ⟨rfl,lc5,em5⟩:=Jz Hq
   have h5:=bu.mono cL.h
   have wg:=h5.hl
   have OH:bs.length=x.os.length:=wg
   refine ⟨a3,b5,_,_,rfl,rfl,h5.h3,Ho,by rw [aa,aa];omega,?_⟩
   have fresh:∀ {c d:Addr} {o:HO},c ∈ yX->H4 d=some o->c ≠ d:=fun {c d o} hc q z=>by
    have:=w5.n c (.tail _ hc)
    rw [z,q] at this;cases this
   have nb:∀ c ∈ yX,c ∉ bs:=fun c hc z=>by
    obtain ⟨i,hi⟩:=List.getElem?_of_mem z
    exact fresh hc (bu.hb i c hi) rfl
   have hf:=h5.FD (bs++yX) (x.os++(ms.drop 1).map fun _=>[]) (by rw [ir,ir,aa,OH,lc5]) (fun i c hc=>?_) (ue.mpr ⟨bu.ap.2,(BB.mp w5.d).2,fun c hc d hd z=>nb d hd (z ▸ hc)⟩) (fun c hc=>?_)
   ·rw [Cf] at hf
    refine k _ (bs++yX) hf (Fy.trans f1 bu ⟨fun c o hc hn=>?_,fun c hc=>?_⟩)
    ·rw [ay fun z=>hn (by rw [z];simp)]
     exact cL.h c o hc
    ·rcases ij.mp hc with z | z
     ·exact .inl z
     ·exact .inr (w5.n c (.tail _ z))
   ·by_cases hi:i<bs.length
    ·rw [IF hi] at hc
     have:=h5.hb i c hc
     rw [br,IF (by rw [<- OH];exact hi),<- br]
     exact this
    ·rw [BS (by omega)] at hc
     rw [em5 c (ma hc),br,BS (by omega),i4]
     cases (ms.drop 1)[i-x.os.length]?<;>rfl
   ·rcases ij.mp hc with z | z
    ·exact .inl z
    ·exact .inr ⟨fresh z bu.hp,fresh z bu.h0,fresh z bu.h1,fresh z bu.h2,fresh z bu.h3,fresh z bu.h4⟩
 ·rw [AM e] at k
  rw [uu e] at hc kN
  refine ku hc (h.rp fa ce n) fun H1 s1=>?_
  have h':=h.mono s1
  exact ku kN (h'.rp fa ce n) fun H2 s2=>k H2 bs (h'.mono s2) (Fy.same (s1.trans s2))
end
end
section
variable {P:Program}{w:World}{K:Frag}{mg:Str->Option Value}{base:Heap}
def qL (fa ce:Int)(ms:List Str)(n:Nat)(x:Lq):Lq:=g6 fa ce n (g5 fa ce (g4 fa (g3 fa ce ms (g2 fa ce n (g1 fa ce n ms x)))))
def vJ (fa ce:Int)(ms:List Str)(x:Lq):Lq:=qL fa ce ms (ce % (x.os.length:Int)).toNat x
structure FB (x:Lq) (ms:List Str):Prop where
 o1 : 1<=x.os.length
 al:x.as.length=x.os.length
 t:x.ts.length<=100
 c:x.cs.length<=100
 o:x.os.length<=100
 ol:∀ o ∈ x.os,o.length<=100
 m1 : 1<=ms.length
 m2:ms.length<=100
theorem FB.row {x:Lq}{ms:List Str}(h:FB x ms)(n:Nat):(x.os.getD n []).length<=100:=by
 rw [br]
 cases e:x.os[n]? with
 |none=>exact Cs _
 |some o=>exact h.ol o (ma e)
def vK (K:Frag):Sp:=fun vs H Q _=>∃ (p a0 a1 a2 a3 a4:Addr) (bs:List Addr) (x:Lq) (ms:List Str) (fa ce:Int),vs=[.ref p,.int fa,.int ce]/\SL H p a0 a1 a2 a3 a4 bs x ms/\FB x ms/\∀ H' bP,SL H' p a0 a1 a2 a3 a4 bP (vJ fa ce ms x) ms->Fy a0 a1 a2 a3 H H' bs bP->Q .aN H'
theorem ne_nil (ts:List Str):(!eQ (ag ts) (.lst []))=decide (ts ≠ []):=by
 cases ts with
 |nil=>rfl
 |cons a l=>rw [zw (by simp)];rfl
theorem uY (ts:List Str):gU (ag ts)<=50:=by
 refine EM (uN (n:=0) fun d hd=>?_) (by decide)
 obtain ⟨m,_,rfl⟩:=zd.mp hd
 exact ee _
theorem sO {ts:List Str}{i:Int}(h0 : 0<=i)(h1:i<ts.length):cC (ts.map ds) i=some (ds (ts.getD i.toNat "")):=by
 have:cC (ts.map ds) ((i.toNat:Nat):Int)=some (ds (ts.getD i.toNat "")):=gx (by rw [i4,br,ar (show i.toNat<ts.length by omega)];rfl)
 rwa [show ((i.toNat:Nat):Int)=i by omega] at this
theorem Xy {os:List (List Str)}{n:Nat}(h:n<os.length):cC (os.map ag) (n:Int)=some (ag (os.getD n [])):=gx (by rw [i4,br,ar h];rfl)
theorem Md (ms:List Str):Tr.ow ((cutD (ms.map ds) (some 1) none).map .fz)=.ow ((ms.drop 1).map tx):=by
 rw [show ((1:Int))=((1:Nat):Int) from rfl,lu,<- Zp,qr];rfl
abbrev QY:List Str:=["_law_case", "_law_fault", "_law_cell", "_law_things", "_law_counts", "_law_askers", "_law_orders", "_law_more", "_law_at"]
abbrev pF:Stmt:=top 43
theorem pD:cH QY ["_law_case", "_law_fault", "_law_cell"] (aD pF):=eA
theorem S5.rp0 {H:Hp}{p a0 a1 a2 a3 a4:Addr}{bs:List Addr}{ts cs as:List Str}{os:List (List Str)}{ms:List Str}(h:S5 H p a0 a1 a2 a3 a4 bs ts cs as os ms)(fa ce:Int):bH K H [none,some (ti fa),some (ti ce),none,none,none,some (.fz (.lst (os.map ag))),none,none] [some (.ref p),some (.int fa),some (.int ce),some (.ref a0),some (.ref a1),some (.ref a2),some (.ref a3),some (.ref a4),none]:=fun j d hd=>by
 match j,hd with
 |1,hd=>cases hd;exact ⟨_,rfl,rfl,rfl⟩
 |2,hd=>cases hd;exact ⟨_,rfl,rfl,rfl⟩
 |6,hd=>cases hd;exact ⟨_,rfl,a3,_,rfl,aF.of h.h3,uW h.hl h.hb⟩
 |0,hd=>cases hd
 |3,hd=>cases hd
 |4,hd=>cases hd
 |5,hd=>cases hd
 |7,hd=>cases hd
 |8,hd=>cases hd
 |n+9,hd=>cases hd
abbrev eF (P:Program)(w:World)(K:Frag)(mg:Str->Option Value)(base:Heap)(f:Addr)(k:Nat):=tD P w K mg base QY "_law_faulty" (aD pF) f k
theorem Xz (fa ce:Int)(n:Nat)(ms:List Str)(x:Lq):(g1 fa ce n ms x).ts=x.ts/\(g1 fa ce n ms x).cs=x.cs/\(g1 fa ce n ms x).as=x.as/\(g1 fa ce n ms x).os.length=x.os.length:=by
 unfold g1
 split
 ·exact ⟨rfl,rfl,rfl,by show (x.os.set _ _).length=_;rw [EN]⟩
 ·exact ⟨rfl,rfl,rfl,rfl⟩
theorem XA (fa ce:Int)(n:Nat)(x:Lq):(g2 fa ce n x).ts.length<=x.ts.length+1/\(g2 fa ce n x).cs.length<=x.cs.length+1/\(g2 fa ce n x).as.length<=x.as.length+1/\(g2 fa ce n x).os.length<=x.os.length+1:=by
 unfold g2
 split
 ·split
  ·refine ⟨?_,?_,Mn _,Mn _⟩
   ·show (x.ts++_).length<=_;rw [ir];exact ee _
   ·show (x.cs++_).length<=_;rw [ir];exact ee _
  ·refine ⟨Mn _,Mn _,?_,?_⟩
   ·show (x.as++_).length<=_;rw [ir];exact ee _
   ·show (x.os++_).length<=_;rw [ir];exact ee _
 ·exact ⟨Mn _,Mn _,Mn _,Mn _⟩
theorem R8 {f:Addr}{fd:FuncData}{k:Nat}(F:cE K "_law_faulty" "_law_faulty" pF f fd)(T:Txt mg):bc P w K mg base aG (k+1) f fd ["_law_case", "_law_fault", "_law_cell"] (vK K):=by
 refine F.d.ok pD (fun vs H Q E ⟨_,_,_,_,_,_,_,_,_,_,_,h,_⟩=>by rw [h];rfl) fun az A outer s H vs Q E hr h=>?_
 obtain ⟨p,a0,a1,a2,a3,a4,bs,x,ms,fa,ce,rfl,h,fb,q⟩:=h
 have big : 1000<sizeLine:=by decide
 refine ⟨_,bM (sF (pv 0) (xx rfl (iu (fO (i:=3) pD.nd rfl (Or.inl rfl)) (iu (fO (i:=4) pD.nd rfl (Or.inl rfl)) (iu (fO (i:=5) pD.nd rfl (Or.inl rfl)) (iu (fO (i:=6) pD.nd rfl (Or.inl rfl)) (iu (fO (i:=7) pD.nd rfl (Or.inl rfl)) wX)))))))
  (bM (sF (eI (F:=eF P w K mg base f k) ⟨az,A,outer,s,H,E,hr⟩) (fO (i:=8) pD.nd rfl (Or.inl rfl)))
  (bM (i7 (mX (F:=eF P w K mg base f k) ⟨az,A,outer,s,H,E,hr⟩) (bM (eY (gK xy abM PySem.F.type_list_insert JY (qh xf (pv 6) (pv 8) (fun _ _=>rfl)) (au (eI (F:=eF P w K mg base f k) ⟨az,A,outer,s,H,E,hr⟩) (au (eI (F:=eF P w K mg base f k) ⟨az,A,outer,s,H,E,hr⟩) aV)))) fh) fh)
  (bM (i7 (mX (F:=eF P w K mg base f k) ⟨az,A,outer,s,H,E,hr⟩) (bM (eY (gK xy LP LS kf (pv 3) (au (eI (F:=eF P w K mg base f k) ⟨az,A,outer,s,H,E,hr⟩) aV))) (bM (eY (gK xy LP LS kf (pv 4) (au (eI (F:=eF P w K mg base f k) ⟨az,A,outer,s,H,E,hr⟩) aV))) fh)) (bM (i7 (mX (F:=eF P w K mg base f k) ⟨az,A,outer,s,H,E,hr⟩) (bM (eY (gK xy LP LS kf (pv 5) (au (eI (F:=eF P w K mg base f k) ⟨az,A,outer,s,H,E,hr⟩) aV))) (bM (eY (gK xy LP LS kf (pv 6) (au (eI (F:=eF P w K mg base f k) ⟨az,A,outer,s,H,E,hr⟩) aV))) fh)) fh) fh))
  (bM (i7 (mX (F:=eF P w K mg base f k) ⟨az,A,outer,s,H,E,hr⟩) (bM (eY (gK xy Pc Pd uw (pv 3) (au (eI (F:=eF P w K mg base f k) ⟨az,A,outer,s,H,E,hr⟩) aV))) (bM (eY (gK xy Pc Pd uw (pv 4) (au (eI (F:=eF P w K mg base f k) ⟨az,A,outer,s,H,E,hr⟩) aV))) fh)) (bM (i7 (mX (F:=eF P w K mg base f k) ⟨az,A,outer,s,H,E,hr⟩) (bM (eY (gK xy Pc Pd uw (pv 5) (au (eI (F:=eF P w K mg base f k) ⟨az,A,outer,s,H,E,hr⟩) aV))) (bM (eY (gK xy Pc Pd uw (pv 6) (au (eI (F:=eF P w K mg base f k) ⟨az,A,outer,s,H,E,hr⟩) aV))) fh)) fh) fh))
  (bM (i7 (mX (F:=eF P w K mg base f k) ⟨az,A,outer,s,H,E,hr⟩) (bM (eY (Mp xy PySem.F.slot_list_clear PySem.F.type_list_clear Kl (pv 5))) (bM (eY (Mp xy PySem.F.slot_list_clear PySem.F.type_list_clear Kl (pv 6))) fh)) fh)
  (bM (i7 (mX (F:=eF P w K mg base f k) ⟨az,A,outer,s,H,E,hr⟩) (bM (sF (eI (F:=eF P w K mg base f k) ⟨az,A,outer,s,H,E,hr⟩) (D2 (pv 4) (eI (F:=eF P w K mg base f k) ⟨az,A,outer,s,H,E,hr⟩) set_list)) fh) fh)
  (bM (i7 (mX (F:=eF P w K mg base f k) ⟨az,A,outer,s,H,E,hr⟩) (bM (eY (gK xy LP LS kf (qh xf (pv 6) (pv 8) (fun _ _=>rfl)) (au (eI (F:=eF P w K mg base f k) ⟨az,A,outer,s,H,E,hr⟩) aV))) (bM (eY (gK xy abM PySem.F.type_list_insert JY (qh xf (pv 6) (pv 8) (fun _ _=>rfl)) (au (eI (F:=eF P w K mg base f k) ⟨az,A,outer,s,H,E,hr⟩) (au (eI (F:=eF P w K mg base f k) ⟨az,A,outer,s,H,E,hr⟩) aV)))) fh)) fh) fh))))))),?_⟩
 have o1:=fb.o1
 have n0:=BN ce (show (x.os.length:Int) ≠ 0 by omega)
 have n1:=AL ce (show (0:Int)<x.os.length by omega)
 unfold vJ qL at q
 generalize hn:(ce % (x.os.length:Int)).toNat=n at q
 have en:ce % (x.os.length:Int)=(n:Int):=by omega
 have nl:n<x.os.length:=by omega
 have row:=fb.row n
 have t:=fb.t
 have cc:=fb.c
 have oo:=fb.o
 have al:=fb.al
 have m1:=fb.m1
 have m2:=fb.m2
 refine ⟨.ref p,rfl,p,_,rfl,eM.of h.hp,rfl,_,_,rfl,_,_,rfl,_,_,rfl,_,_,rfl,_,_,rfl,rfl,?_⟩
 show cq (hU (uE _ _) _) _ _ [some (.ref p),some (.int fa),some (.int ce),some (.ref a0),some (.ref a1),some (.ref a2),some (.ref a3),some (.ref a4),none] H
 refine gp (t:=ti (n:Int)) (Ev.to (bU (ae 2 rfl) (bK T.aR (ae 6 rfl) (.inl rfl)) (by rw [aa];omega)) (by rw [aa,en])) (h.rp0 fa ce) fun v1 G1 H1 f1 ua o1' _=>?_
 have ev1:v1=.int n:=aB o1'.2
 subst ev1
 have h1:=h.mono ua.h
 have F0:Fy a0 a1 a2 a3 H H1 bs bs:=Fy.same ua.h
 show cq (gN (uT _ _) _ _) _ _ (gf p fa ce n a0 a1 a2 a3 a4) H1
 have cd:∀ m:Int,0<m->m<100->qj ce m:=fun m a b=>⟨by omega,fg (by omega) (by omega)⟩
 refine Y1 (x:=x) h1 nl (by omega) (eh (ae 1 rfl) af) ?_ ?_ ?_
 ·exact Ev.to (bU (gF (ae 2 rfl) af (cd 7 (by decide) (by decide))) (iz (bK T.aR (bA (d:=ag (x.os.getD n [])) (ae 6 rfl) (ae 8 rfl) rfl (Xy nl)) (.inl rfl)) af) (by omega)) (by rw [aa])
 ·exact bA (d:=ds (ms.getD 0 "")) (ae 7 rfl) af rfl (sO (Int.le_refl _) (by omega))
 intro H2 Hm h2 F1
 obtain ⟨Hr,Hs,yY,x1o⟩:=Xz fa ce n ms x
 have NA:fa=6->g1 fa ce n ms x=x:=fun e=>by unfold g1;rw [AM (by omega)]
 generalize g1 fa ce n ms x=x1 at q h2 Hr Hs yY x1o NA
 have F1':=Fy.trans F0 h1 F1
 refine Y5 (x:=x1) (n:=n) h2 ⟨by rw [Hr];omega,by rw [Hs];omega,by rw [yY];omega,by omega⟩ ?_ (eh (ae 1 rfl) af) ?_ (fun ts=>bJ) ?_ (fun as=>b0 ao (Cs _)) ?_
 ·refine Et.to (Ew.et (lF (eh (ae 1 rfl) af) fun _=>lF (lE (ae 3 rfl) (b0 ao (Cs _)) (.inl ⟨_,_,rfl,rfl⟩) (uY _)) fun _=>mJ (eh (bU (ae 2 rfl) af (by decide)) af))) ?_
  rw [show er (.ow [])=Dv.lst [] from rfl,show er (.fz (ag x1.ts))=ag x1.ts from rfl,ne_nil]
 ·intro ik
  have hp : 0<x1.ts.length:=LF.mpr ik
  have i0:=BN (ce / 2) (show (x1.ts.length:Int) ≠ 0 by omega)
  have i1:=AL (ce / 2) (show (0:Int)<x1.ts.length by omega)
  exact bA (d:=ds _) (ae 3 rfl) (Ev.to (bU (gF (ae 2 rfl) af (cd 2 (by decide) (by decide))) (bK T.aR (ae 3 rfl) (.inl rfl)) (by rw [aa];omega)) (by rw [aa])) rfl (sO i0 i1)
 ·have:n<x1.as.length:=by rw [yY,al];exact nl
  have:=sO (ts:=x1.as) (i:=(n:Int)) (by omega) (by omega)
  rw [NJ] at this
  exact bA (d:=ds _) (ae 5 rfl) (ae 8 rfl) rfl this
 intro H3 bs3 h3 F2
 obtain ⟨QZ,Q0,Q1,x2o⟩:=XA fa ce n x1
 have F2':=Fy.trans F1' h2 F2
 have NB:fa=6->g2 fa ce n x1=x1:=fun e=>by unfold g2;rw [AM (by omega)]
 generalize Qo:g2 fa ce n x1=x2 at q h3 QZ Q0 Q1 x2o NB
 refine Y6 (x:=x2) (n:=n) h3 ⟨by rw [Hr] at QZ;omega,by rw [Hs] at Q0;omega,by rw [yY] at Q1;omega,by omega⟩ (Ew.et (lF (eh (ae 1 rfl) af) fun _=>mJ (eh (bU (ae 2 rfl) af (by decide)) af))) (eh (ae 1 rfl) af) ?_ ?_ ?_ ?_ ?_
 ·exact Ev.to (fM (ae 7 rfl) rfl (eS af) gi) (Md ms)
 ·intro ts
  refine Ev.to (dh (own:=["_law_name_here"]) (fr:=[]) (ms.drop 1) ds (fun _=>tx "1") (fun i=>bQ) (aX.to (bN (fM (ae 7 rfl) rfl (eS af) gi) (gk _)) (by rw [show ((1:Int))=((1:Nat):Int) from rfl,lu,Zp])) (aZ 0 (fun _=>by show List.Nodup (["_law_name_here"]:List Str);decide)) (by decide) (by rw [EO];omega) (fun x hx=>⟨_,rfl,by exact bJ⟩) (fun dd=>by cases dd<;>rfl)) ?_
  rw [qr];rfl
 ·exact Ev.to (fM (ae 7 rfl) rfl (eS af) gi) (Md ms)
 ·intro as
  exact dh (own:=["_law_name_here"]) (fr:=[]) (ms.drop 1) ds (fun _=>Tr.ow []) (fun i=>bQ) (aX.to (bN (fM (ae 7 rfl) rfl (eS af) gi) (gk _)) (by rw [show ((1:Int))=((1:Nat):Int) from rfl,lu,Zp])) (aZ 0 (fun _=>by show List.Nodup (["_law_name_here"]:List Str);decide)) (by decide) (by rw [EO];omega) (fun x hx=>⟨_,rfl,by exact b0 ao (Cs _)⟩) (fun dd=>by cases dd<;>rfl)
 intro H4 bs4 h4 F3
 have F3':=Fy.trans F2' h3 F3
 have NC:fa=6->g3 fa ce ms x2=x2:=fun e=>by unfold g3;rw [AM (by omega)]
 generalize hx3:g3 fa ce ms x2=x3 at q h4 NC
 refine Y2 (x:=x3) (n:=n) (ce:=ce) h4 (eh (ae 1 rfl) af) ?_
 intro H5 bs5 h5 F4
 have F4':=Fy.trans F3' h4 F4
 have ND:fa=6->g4 fa x3=x3:=fun e=>by unfold g4;rw [AM (by omega)]
 generalize hx4:g4 fa x3=x4 at q h5 ND
 refine Y3 (x:=x4) (n:=n) h5 ?_ ?_ ?_ ?_
 ·refine Et.to (Ew.et (lF (eh (ae 1 rfl) af) fun _=>mJ (lE (ae 4 rfl) (b0 ao (Cs _)) (.inl ⟨_,_,rfl,rfl⟩) (uY _)))) ?_
  rw [show er (.ow [])=Dv.lst [] from rfl,show er (.fz (ag x4.cs))=ag x4.cs from rfl,ne_nil]
 ·intro ik
  have hp : 0<x4.cs.length:=LF.mpr ik
  exact Ev.to (bU (ae 2 rfl) (bK T.aR (ae 4 rfl) (.inl rfl)) (by rw [aa];omega)) (by rw [aa])
 ·refine L7 T.sV (iz af (bU (gF (ae 2 rfl) af (cd 7 (by decide) (by decide))) (W5 (Ea af af ⟨by decide,by decide,by decide⟩) af) (by decide))) ?_
  have i0:=BN (ce / 7) (show ((10:Int) ^ (9:Int).toNat-10) ≠ 0 by decide)
  have i1:=AL (ce / 7) (show (0:Int)<(10:Int) ^ (9:Int).toNat-10 by decide)
  have e9:(10:Int) ^ (9:Int).toNat=1000000000:=by decide
  rw [e9] at i0 i1 ⊢
  rw [Nat.log2_lt (by omega)]
  exact rb (show _<2 ^ 31 by omega) (Nat.pow_le_pow_right (by decide) (by decide))
 intro H6 bs6 h6 F5
 have F5':=Fy.trans F4' h5 F5
 have NF:fa=6->g5 fa ce x4=x4:=fun e=>by unfold g5;rw [AM (by omega)]
 generalize hx5:g5 fa ce x4=x5 at q h6 NF
 have OI:fa=6->x5=x:=fun e=>by rw [NF e,ND e,NC e,NB e,NA e]
 refine Y4 (x:=x5) (n:=n) h6 (fun e=>by rw [OI e];exact nl) (fun e=>by rw [OI e];omega) ?_ ?_ (fun os _=>af) ?_ (fun H7 Ht h7 F6=>q H7 Ht h7 (Fy.trans F5' h6 F6))
 ·refine Et.to (Ew.et (lF (eh (ae 1 rfl) af) fun _=>mJ (lE (ae 3 rfl) (b0 ao (Cs _)) (.inl ⟨_,_,rfl,rfl⟩) (uY _)))) ?_
  rw [show er (.ow [])=Dv.lst [] from rfl,show er (.fz (ag x5.ts))=ag x5.ts from rfl,ne_nil]
 ·intro os ik
  have hp : 0<x5.ts.length:=LF.mpr ik
  have i0:=BN (ce / 7) (show (x5.ts.length:Int) ≠ 0 by omega)
  have i1:=AL (ce / 7) (show (0:Int)<x5.ts.length by omega)
  exact bA (d:=ds _) (ae 3 rfl) (Ev.to (bU (gF (ae 2 rfl) af (cd 7 (by decide) (by decide))) (bK T.aR (ae 3 rfl) (.inl rfl)) (by rw [aa];show (0:Int)<((x5.ts.length:Nat):Int);omega)) (by rw [aa])) rfl (sO i0 i1)
 ·intro os ik
  have hp : 0<x5.ts.length:=LF.mpr ik
  have i0:=BN (ce / 7) (show (x5.ts.length:Int) ≠ 0 by omega)
  have i1:=AL (ce / 7) (show (0:Int)<x5.ts.length by omega)
  exact bA (d:=ds _) (ae 3 rfl) (Ev.to (bU (gF (ae 2 rfl) af (cd 7 (by decide) (by decide))) (bK T.aR (ae 3 rfl) (.inl rfl)) (by rw [aa];show (0:Int)<((x5.ts.length:Nat):Int);omega)) (by rw [aa])) rfl (sO i0 i1)
end
section
variable {P:Program}{w:World}{K:Frag}{mg:Str->Option Value}{base:Heap}
section
variable {ι:Type}{F:aQ ι}{kk:Nat}{tp:Pos}
theorem MQ (j1 j2 j3 j4 j5:Nat){x y z u v:Str}{px py pz pu pv':Pos}(hN:∀ i,(F.cx i).N.Nodup)(h1:∀ i,(F.cx i).N[j1]?=some x:=by intro _;rfl)(h2:∀ i,(F.cx i).N[j2]?=some y:=by intro _;rfl)(h3:∀ i,(F.cx i).N[j3]?=some z:=by intro _;rfl)(h4:∀ i,(F.cx i).N[j4]?=some u:=by intro _;rfl)(h5:∀ i,(F.cx i).N[j5]?=some v:=by intro _;rfl)(hx:∀ i,Loc (F.cx i).env.scope x:=by intro _;first | exact Or.inl rfl | exact Or.inr rfl)(hy:∀ i,Loc (F.cx i).env.scope y:=by intro _;first | exact Or.inl rfl | exact Or.inr rfl)(hz:∀ i,Loc (F.cx i).env.scope z:=by intro _;first | exact Or.inl rfl | exact Or.inr rfl)(hu:∀ i,Loc (F.cx i).env.scope u:=by intro _;first | exact Or.inl rfl | exact Or.inr rfl)(hv:∀ i,Loc (F.cx i).env.scope v:=by intro _;first | exact Or.inl rfl | exact Or.inr rfl)(fx:∀ i,(F.cx i).fn x=true\/(F.cx i).env.scope.names.lookup x=some .local:=by intro _;first | exact .inl rfl | exact .inr rfl)(fy:∀ i,(F.cx i).fn y=true\/(F.cx i).env.scope.names.lookup y=some .local:=by intro _;first | exact .inl rfl | exact .inr rfl)(fz:∀ i,(F.cx i).fn z=true\/(F.cx i).env.scope.names.lookup z=some .local:=by intro _;first | exact .inl rfl | exact .inr rfl)(fu:∀ i,(F.cx i).fn u=true\/(F.cx i).env.scope.names.lookup u=some .local:=by intro _;first | exact .inl rfl | exact .inr rfl)(fv:∀ i,(F.cx i).fn v=true\/(F.cx i).env.scope.names.lookup v=some .local:=by intro _;first | exact .inl rfl | exact .inr rfl) :
  iH F (.Tuple [.Name x px,.Name y py,.Name z pz,.Name u pu,.Name v pv'] kk tp) [j1,j2,j3,j4,j5] (EE 5) :=
 ⟨yb F.K 5 (ko (dZ j1) (ko (dZ j2) (ko (dZ j3) (ko (dZ j4) (ko (dZ j5) x8))))),fun i=>F.hK i ▸ xx (F.calm i) (iu (fO (hN i) (h1 i) (hx i) (fx i)) (iu (fO (hN i) (h2 i) (hy i) (fy i)) (iu (fO (hN i) (h3 i) (hz i) (fz i)) (iu (fO (hN i) (h4 i) (hu i) (fu i)) (iu (fO (hN i) (h5 i) (hv i) (fv i)) wX))))),fun d dd v σ G H Q e s h k=>by
  cases d with
  |fl _=>cases e
  |lst _=>cases e
  |tup ds =>
   obtain ⟨hl,rfl⟩:=JB e
   obtain ⟨a,vs,rfl,q1,q2⟩:=h
   have hv:vs.length=5:=by rw [<- q2.length];exact hl
   refine ⟨a,vs,rfl,s.tup q1,hv,?_⟩
   match vs,hv with
   |[v1,v2,v3,v4,v5],_=>exact ⟨v1,[v2,v3,v4,v5],rfl,v2,[v3,v4,v5],rfl,v3,[v4,v5],rfl,v4,[v5],rfl,v5,[],rfl,rfl,k [v1,v2,v3,v4,v5] q2⟩⟩
end
abbrev dC (ts:List Str)(cs:LI)(as:List Str)(os:List (List Str))(ms:List Str):Dv:=.tup [ag ts,ag (cs.map aO),ag as,.lst (os.map ag),ag ms]
abbrev FG (ω:eD):Tr:=.tp [cU (dG ω),.fz (.fl (ez ω))]
theorem Wn {ts:List Str}{x y:Str}(hx:x ∈ ts)(hy:y ∈ ts)(h:kd ts x=kd ts y):x=y:=by
 have a:=xF hx
 have b:=xF hy
 rw [h,b] at a
 exact (AE a).symm
theorem KR {ts o:List Str}(h:∀ x ∈ o,x ∈ ts):(o.map (iK ts)).Nodup ↔ o.Nodup:=by
 constructor
 ·intro nd
  rw [Nd,ace] at nd
  rw [Nd]
  exact nd.imp fun nA e=>nA (by rw [e])
 ·intro nd
  rw [Nd,ace]
  rw [Nd] at nd
  refine nd.imp_of_mem fun ha hb nA e=>nA (Wn (h _ ha) (h _ hb) ?_)
  have e:((kd ts _:Nat):Int)=((kd ts _:Nat):Int):=e
  omega
theorem NI (ns:LI):∀ i,i<=ns.length->(PyProof.Rows.firstMet (fun i=>ns.getD i 0) i).length=i->(ns.take i).Nodup
 |0,_,_=>by rw [acW];exact .nil
 |i+1,hi,h=>by
  have le:=PyProof.Rows.firstMet_length_le (fun i=>ns.getD i 0) i
  have hx:ns[i]?=some (ns[i]'(by omega)):=ar _
  rw [PyProof.Rows.firstMet_succ] at h
  unfold PyProof.Rows.step_dedup at h
  split at h
  ·omega
  rename_i hn
  have ih:=NI ns i (by omega) (by rw [ir,ach] at h;omega)
  rw [nQ hx]
  refine ue.mpr ⟨ih,BB.mpr ⟨(fun z=>nomatch z),.nil⟩,fun a ha b hb e=>hn ?_⟩
  rw [mT.mp hb] at e
  rw [PyProof.Rows.firstMet_any,abF]
  obtain ⟨j,hj,vX⟩:=acn.mp ha
  rw [List.getElem_take] at vX
  rw [DO] at hj
  refine ⟨_,zd.mpr ⟨j,NO.mpr (by omega),rfl⟩,?_⟩
  rw [GG]
  show ns.getD j 0=ns.getD i 0
  rw [br,br,hx,ar (show j<ns.length by omega)]
  show ns[j]=ns[i]
  rw [vX,e]
theorem Tc {ns:LI}(h:unlike ns=ns.length):ns.Nodup:=by
 have:=NI ns ns.length (ee _) h
 rwa [acm] at this
theorem XB {ts o:List Str}(h:∀ x ∈ o,x ∈ ts):lQ (o.map (iK ts))=decide (cntK o o.length<o.length):=by
 unfold lQ
 have le:=uQ o o.length
 by_cases nd:o.Nodup
 ·rw [SM ((KR h).mpr nd),zw rfl,DT nd,uu (LM _)];rfl
 ·have:cntK o o.length<o.length:=by
   rcases abL (cntK o o.length) o.length with q | q
   ·exact q
   ·exact absurd (Dk.mp (by omega)) nd
  rw [zw this,show decide (((unlike (o.map (iK ts)):Nat):Int)=((o.map (iK ts)).length:Nat))=false from uu fun e=>?_];rfl
  exact nd ((KR h).mp (Tc (by omega)))
def gQ (o:List Str):Bool:=decide (cntK o o.length<o.length)
theorem wV {o:List Str}:gQ o=false ↔ o.Nodup:=by
 have le:=uQ o o.length
 unfold gQ
 rw [Zs,<- Dk]
 omega
def tH (ts:List Str)(cs:LI)(as:List Str)(os:List (List Str)):eD :=
 if (os.all fun o=>o.all fun x=>ts.contains x)=false then .name else if (gQ ts || gQ as)=true then .double else if (decide (6<ts.length) || decide (6<as.length))=true then .great else if as=[] then .oB else if (cs.any fun x=>decide (9<x))=true then .number else
  match os.findIdx? gQ with
  |some j=>.twice j
  |none=>.made
theorem KS {α β:Type}(f : α->β)(p : β->Bool):∀ l:List α,(l.map f).findIdx? p=l.findIdx? fun x=>p (f x)
 |[] => rfl
 |a::l=>by rw [ES,ab1,ab1,KS f p l]
theorem JI {α:Type}{p q : α->Bool}:∀ {l:List α},(∀ x ∈ l,p x=q x)->l.findIdx? p=l.findIdx? q
 |[],_=>rfl
 |a::l,h=>by rw [ab1,ab1,h a (.head _),JI fun x hx=>h x (.tail _ hx)]
theorem TL {l:LI}{p q:Int->Bool}(h:∀ x ∈ l,p x=q x):l.any p=l.any q:=by
 induction l with
 |nil=>rfl
 |cons a l ih=>rw [acq,acq,h a (.head _),ih fun x hx=>h x (.tail _ hx)]
theorem Wo (ts:List Str):eQ (ag ts) (.lst [])=decide (ts=[]):=by
 cases ts with
 |nil=>rfl
 |cons a l=>rw [uu (by simp)];rfl
theorem MR {ts:List Str}{cs:LI}{as:List Str}{os:List (List Str)}(hc:Cw ts cs as os):eJ ts cs as os=tH ts cs as os:=by
 unfold eJ tH
 split
 ·rfl
 rename_i eC
 rw [YA] at eC
 have mem:=vk eC
 have hd:(decide ts.Nodup=false\/decide as.Nodup=false) ↔ (gQ ts || gQ as)=true:=by
  rw [abW]
  have e:∀ l:List Str,decide l.Nodup=false ↔ gQ l=true:=fun l=>by
   rw [Zs,<- wV,YA]
  rw [e,e]
 by_cases h1:(gQ ts || gQ as)=true
 ·rw [Cn (hd.mpr h1),Cn h1]
 rw [AM (fun z=>h1 (hd.mp z)),AM h1]
 unfold tG
 have hg:(6<cs.length\/6<(eE ts os).length) ↔ (decide (6<ts.length) || decide (6<as.length))=true:=by
  rw [abW,Sm,Sm,aa,hc.tl,hc.al]
 by_cases h2:(decide (6<ts.length) || decide (6<as.length))=true
 ·rw [Cn (hg.mpr h2),Cn h2]
 rw [AM (fun z=>h2 (hg.mp z)),AM h2]
 have ha:(eE ts os).length=0 ↔ as=[]:=by
  rw [aa,<- hc.al,ab0]
 by_cases h3:as=[]
 ·rw [Cn (ha.mpr h3),Cn h3]
 rw [AM (fun z=>h3 (ha.mp z)),AM h3]
 have hn:(cs.map fun x=>decide (x<0) || decide (9<x)).any id=cs.any fun x=>decide (9<x):=by
  rw [List.any_map]
  refine TL fun x hx=>?_
  show (decide (x<0) || decide (9<x))=_
  rw [uu (show ¬ x<0 by have:=(hc.cn x hx).1;omega)];rfl
 rw [hn]
 split
 ·rfl
 have hb:(eE ts os).findIdx? (qH cs.length)=none:=NH.mpr fun o ho=>by
  obtain ⟨o',cu,rfl⟩:=zd.mp ho
  unfold qH
  rw [RI]
  intro b hb
  rw [qr] at hb
  obtain ⟨x,hx,rfl⟩:=zd.mp hb
  have lt:=MN (mem o' cu x hx)
  have tl:=hc.tl
  show ¬ (decide (iK ts x<0) || decide ((cs.length:Int)<=iK ts x))=true
  rw [uu (show ¬ iK ts x<0 by show ¬ ((kd ts x:Nat):Int)<0;omega),uu (show ¬ (cs.length:Int)<=iK ts x by show ¬ (cs.length:Int)<=((kd ts x:Nat):Int);omega)]
  decide
 rw [hb]
 have ht:(eE ts os).findIdx? lQ=os.findIdx? gQ:=by
  unfold eE
  rw [KS]
  exact JI fun o ho=>XB (mem o ho)
 rw [ht]<;>rfl
abbrev nDu:List Str:=["_law_case", "_law_things", "_law_counts", "_law_askers", "_law_orders", "_law_more", "_law_order_here", "_law_asker"]
abbrev rU:Stmt:=top 44
theorem rP:cH nDu ["_law_case"] (aD rU):=eA
def OJ (dd:List Dv)(t:Tr):Prop:=∃ (ts:List Str) (cs:LI) (as:List Str) (os:List (List Str)) (ms:List Str),Cw ts cs as os/\dd=[dC ts cs as os ms]/\t=FG (eJ ts cs as os)
theorem xq {α:Type}(l:List α)(q : α->Bool)(f : α->Str):(!eQ (er (.ow ((l.filter q).map fun x=>tx (f x)))) (.lst []))=l.any q:=by
 have e:er (.ow ((l.filter q).map fun x=>tx (f x)))=ag ((l.filter q).map f):=by rw [rX];show Dv.lst _=Dv.lst (List.map ds (List.map f _));rw [qr];rfl
 rw [e,ne_nil]
 clear e
 induction l with
 |nil=>rfl
 |cons a l ih =>
  rw [acq,abE]
  cases h:q a with
  |true=>rfl
  |false=>rw [AM (by decide)];rw [ih];rfl
theorem xr {α:Type}(l:List α)(f : α->Str):gU (er (.ow (l.map fun x=>tx (f x))))<=50:=by
 have e:er (.ow (l.map fun x=>tx (f x)))=ag (l.map f):=by rw [rX];show Dv.lst _=Dv.lst (List.map ds (List.map f _));rw [qr];rfl
 rw [e];exact uY _
theorem Td {f:Addr}{fd:FuncData}{k:Nat}(F:cE K "_law_due" "_law_due" rU f fd)(T:Txt mg):bc P w K mg base aG (k+1) f fd ["_law_case"] (spT K OJ):=by
 refine fQ F.d rP (fun dd t h=>by obtain ⟨_,_,_,_,_,_,rfl,_⟩:=h;rfl) fun dd t h=>?_
 obtain ⟨ts,cs,as,os,ms,hc,rfl,rfl⟩:=h
 rw [MR hc]
 refine ⟨_,.inl rfl,?_⟩
 have big : 5000<sizeLine:=by decide
 have jG:=hc.jG
 have gY:=hc.gY
 have tl:=hc.tl
 have al:=hc.al
 refine aE (LJ (Ev.s (ae 0 rfl)) (MQ 1 2 3 4 5 (fun _=>rP.nd)) rfl) ?_
 show cz _ _ [some (.fz (dC ts cs as os ms)),some (.fz (ag ts)),some (.fz (ag (cs.map aO))),some (.fz (ag as)),some (.fz (.lst (os.map ag))),some (.fz (ag ms)),none,none] _
 have go:(∃ (m:Nat) (o:List Str),os[m]?=some o/\(o.any fun x=>!ts.contains x)=true/\∀ (n:Nat) (o':List Str),n<m->os[n]?=some o'->(o'.any fun x=>!ts.contains x)=false)/\tH ts cs as os=.name\/(∀ o ∈ os,(o.any fun x=>!ts.contains x)=false)/\(os.all fun o=>o.all fun x=>ts.contains x)=true:=by
  cases eC:(os.all fun o=>o.all fun x=>ts.contains x) with
  |false =>
   refine .inl ⟨?_,by unfold tH;rw [Cn eC]⟩
   obtain ⟨m,o,hm,⟨x,hx,hn⟩,hb⟩:=KQ eC
   refine ⟨m,o,hm,abF.mpr ⟨x,hx,by simpa using hn⟩,fun n o' h1 h2=>RI.mpr fun y hy=>by simpa using hb n o' h1 h2 y hy⟩
  |true=>exact .inr ⟨fun o ho=>RI.mpr fun y hy=>by simpa using vk eC o ho y hy,rfl⟩
 rcases go with ⟨⟨m,o,hm,hy,hb⟩,e⟩ | ⟨hno,eC⟩
 ·rw [e]
  have lm:=(gz.mp hm).1
  refine KA (aX.s (bN (ae 4 rfl) rfl)) (aZ 6 (fun _=>rP.nd)) (fun _=>[some (.fz (dC ts cs as os ms)),some (.fz (ag ts)),some (.fz (ag (cs.map aO))),some (.fz (ag as)),some (.fz (.lst (os.map ag))),some (.fz (ag ms)),none,none]) m (by rw [aa];omega) rfl (fun _=>rfl) (fun j d hj hd=>?_) (.inr ⟨ag o,_,_,by rw [i4,hm];rfl,rfl,aS (oq (cG.to (Et.s (lE (vi (own:=["_law_name_here"]) (fr:=[1]) o ds (fun x=>!ts.contains x) (fun x=>tx x) (fun i=>bQ) (bN (ae 6 rfl) rfl) (aZ 0 (fun _=>by show List.Nodup (["_law_name_here", "_law_things"]:List Str);decide)) (by decide) (by have:=hc.jF o (ma hm);omega) (fun x hx=>⟨_,rfl,by exact xC (CA (ws:=ts) (ae 0 rfl) (ae 1 rfl) rfl (by with_unfolding_all rfl)),fun _=>by exact ae 0 rfl⟩) (fun dd=>by cases dd<;>rfl)) (b0 ao (Cs _)) (.inl ⟨_,_,rfl,rfl⟩) (xr _ fun x=>x))) (xq o _ fun x=>x)) hy (aS (de (Ev.s (jQ (ah (b0 (ah af (ah af ao)) (by show 2<=sizeLine;decide)) (ah jP ao)) (by show 2<=sizeLine;decide)))))),rfl⟩)
  obtain ⟨o',cu,rfl⟩:=iN hd
  exact ⟨_,_,rfl,aS (cA (cG.to (Et.s (lE (vi (own:=["_law_name_here"]) (fr:=[1]) o' ds (fun x=>!ts.contains x) (fun x=>tx x) (fun i=>bQ) (bN (ae 6 rfl) rfl) (aZ 0 (fun _=>by show List.Nodup (["_law_name_here", "_law_things"]:List Str);decide)) (by decide) (by have:=hc.jF o' (ma cu);omega) (fun x hx=>⟨_,rfl,by exact xC (CA (ws:=ts) (ae 0 rfl) (ae 1 rfl) rfl (by with_unfolding_all rfl)),fun _=>by exact ae 0 rfl⟩) (fun dd=>by cases dd<;>rfl)) (b0 ao (Cs _)) (.inl ⟨_,_,rfl,rfl⟩) (xr _ fun x=>x))) (xq o' _ fun x=>x)) (hb j o' hj cu)),[6],rfl⟩
 refine aE (kl (aX.s (bN (ae 4 rfl) rfl)) (aZ 6 (fun _=>rP.nd)) (fun _=>[some (.fz (dC ts cs as os ms)),some (.fz (ag ts)),some (.fz (ag (cs.map aO))),some (.fz (ag as)),some (.fz (.lst (os.map ag))),some (.fz (ag ms)),none,none]) rfl (fun _=>rfl) (fun j d hd=>?_)) ?_
 ·obtain ⟨o',cu,rfl⟩:=iN hd
  exact ⟨_,_,rfl,aS (cA (cG.to (Et.s (lE (vi (own:=["_law_name_here"]) (fr:=[1]) o' ds (fun x=>!ts.contains x) (fun x=>tx x) (fun i=>bQ) (bN (ae 6 rfl) rfl) (aZ 0 (fun _=>by show List.Nodup (["_law_name_here", "_law_things"]:List Str);decide)) (by decide) (by have:=hc.jF o' (ma cu);omega) (fun x hx=>⟨_,rfl,by exact xC (CA (ws:=ts) (ae 0 rfl) (ae 1 rfl) rfl (by with_unfolding_all rfl)),fun _=>by exact ae 0 rfl⟩) (fun dd=>by cases dd<;>rfl)) (b0 ao (Cs _)) (.inl ⟨_,_,rfl,rfl⟩) (xr _ fun x=>x))) (xq o' _ fun x=>x)) (hno o' (ma cu))),[6],rfl⟩
 unfold tH
 rw [AM (by rw [eC];decide)]
 have cnt:∀ l:List Str,decide (((cntK l l.length:Nat):Int)<((l.map ds).length:Int))=gQ l:=fun l=>by
  rw [aa]
  unfold gQ
  exact acO.mpr (by omega)
 refine kh (cG.to (q:=gQ ts || gQ as) (Et.s (Ew.et (iA (qp (pJ (ws:=ts) T.aR T.lK (ae 1 rfl) rfl (by omega)) (bK T.aR (ae 1 rfl) (.inl rfl))) fun _=>iP (qp (pJ (ws:=as) T.aR T.lK (ae 3 rfl) rfl (by omega)) (bK T.aR (ae 3 rfl) (.inl rfl)))))) (by rw [cnt,cnt])) (fun hp=>?_) fun hp=>?_
 ·rw [Cn hp]
  exact aS (de (Ev.s (jQ (ah (b0 (ah af (ah af ao)) (by show 2<=sizeLine;decide)) (ah jP ao)) (by show 2<=sizeLine;decide))))
 rw [AM (by rw [hp];decide)]
 refine kh (cG.to (q:=decide (6<ts.length) || decide (6<as.length)) (Et.s (Ew.et (iA (i9 (bK T.aR (ae 1 rfl) (.inl rfl)) af) fun _=>iP (i9 (bK T.aR (ae 3 rfl) (.inl rfl)) af)))) (by rw [aa,aa,show decide ((6:Int)<(ts.length:Int))=decide (6<ts.length) from acO.mpr (by omega),show decide ((6:Int)<(as.length:Int))=decide (6<as.length) from acO.mpr (by omega)])) (fun hp=>?_) fun hp=>?_
 ·rw [Cn hp]
  exact aS (de (Ev.s (jQ (ah (b0 (ah af (ah af ao)) (by show 2<=sizeLine;decide)) (ah jP ao)) (by show 2<=sizeLine;decide))))
 rw [AM (by rw [hp];decide)]
 refine kh (cG.to (q:=decide (as=[])) (Et.s (Mw (ae 3 rfl) (b0 ao (Cs _)) (.inl ⟨_,_,rfl,rfl⟩) (uY _))) (Wo as)) (fun hp=>?_) fun hp=>?_
 ·rw [Cn (Na hp)]
  exact aS (de (Ev.s (jQ (ah (b0 (ah af (ah af ao)) (by show 2<=sizeLine;decide)) (ah jP ao)) (by show 2<=sizeLine;decide))))
 rw [AM (OE hp)]
 refine kh (cG.to (q:=cs.any fun x=>decide (9<x)) (Et.s (lE (vi (own:=["_law_count"]) (fr:=[]) cs (fun x=>ds (aO x)) (fun x=>decide (9<x)) (fun x=>tx (aO x)) (fun i=>bQ) (aX.to (bN (ae 2 rfl) rfl) (by rw [qr];rfl)) (aZ 0 (fun _=>by show List.Nodup (["_law_count"]:List Str);decide)) (by decide) (by omega) (fun x hx=>⟨_,rfl,by
   obtain ⟨x0,x9⟩:=hc.cn x hx
   exact xC (i9 (DR (n:=x) T.xW (ae 0 rfl) (uI x0 x9) (by have:=sq x0 x9;omega)) af),fun _=>by exact ae 0 rfl⟩) (fun dd=>by cases dd<;>rfl)) (b0 ao (Cs _)) (.inl ⟨_,_,rfl,rfl⟩) (xr _ aO))) (xq cs _ aO)) (fun hp=>?_) fun hp=>?_
 ·rw [Cn hp]
  exact aS (de (Ev.s (jQ (ah (b0 (ah af (ah af ao)) (by show 2<=sizeLine;decide)) (ah jP ao)) (by show 2<=sizeLine;decide))))
 rw [AM (by rw [hp];decide)]
 have rl:(nh 0 os.length).length=os.length:=by rw [aa,BY]
 cases hf:os.findIdx? gQ with
 |some m =>
  obtain ⟨lm,h1,h2⟩:=Of.mp hf
  refine KA (aX.s (aX.to (mD T.jN (bK T.aR (ae 4 rfl) (.inl rfl)) (by rw [aa];omega)) (by rw [aa,NJ]))) (aZ 7 (fun _=>rP.nd)) (fun _=>[some (.fz (dC ts cs as os ms)),some (.fz (ag ts)),some (.fz (ag (cs.map aO))),some (.fz (ag as)),some (.fz (.lst (os.map ag))),some (.fz (ag ms)),none,none]) m (by rw [rl];omega) rfl (fun _=>rfl) (fun j d hj hd=>?_) (.inr ⟨di (0+(m:Int)),_,_,(by rw [i4,IS lm];rfl),rfl,aS (oq (cG.to (Et.s (qp (pJ (ws:=(os[m]'lm)) T.aR T.lK (bA (d:=ag (os[m]'lm)) (ae 4 rfl) (ae 7 rfl) rfl (by rw [YI];exact gx (by rw [i4,(ar lm)];rfl))) rfl (by have:=hc.jF (os[m]'lm) (ma (ar lm));omega)) (bK T.aR (bA (d:=ag (os[m]'lm)) (ae 4 rfl) (ae 7 rfl) rfl (by rw [YI];exact gx (by rw [i4,(ar lm)];rfl))) (.inl rfl)))) (cnt (os[m]'lm))) h1 (aS (de (Ev.s (jQ (ah (b0 (ah af (ah af ao)) (by show 2<=sizeLine;decide)) (ah (ae 7 rfl) ao)) (by show 2<=sizeLine;decide)))))),?_⟩)
  ·obtain ⟨lj,rfl⟩:=pW hd
   exact ⟨_,_,rfl,aS (cA (cG.to (Et.s (qp (pJ (ws:=(os[j]'lj)) T.aR T.lK (bA (d:=ag (os[j]'lj)) (ae 4 rfl) (ae 7 rfl) rfl (by rw [YI];exact gx (by rw [i4,(ar lj)];rfl))) rfl (by have:=hc.jF (os[j]'lj) (ma (ar lj));omega)) (bK T.aR (bA (d:=ag (os[j]'lj)) (ae 4 rfl) (ae 7 rfl) rfl (by rw [YI];exact gx (by rw [i4,(ar lj)];rfl))) (.inl rfl)))) (cnt (os[j]'lj))) (by have:=h2 j hj;simpa using this)),[7],rfl⟩
  ·show Out.rt (FG (.twice m))=_
   rw [YI];rfl
 |none =>
  refine aE (kl (aX.s (aX.to (mD T.jN (bK T.aR (ae 4 rfl) (.inl rfl)) (by rw [aa];omega)) (by rw [aa,NJ]))) (aZ 7 (fun _=>rP.nd)) (fun _=>[some (.fz (dC ts cs as os ms)),some (.fz (ag ts)),some (.fz (ag (cs.map aO))),some (.fz (ag as)),some (.fz (.lst (os.map ag))),some (.fz (ag ms)),none,none]) rfl (fun _=>rfl) (fun j d hd=>?_)) ?_
  ·obtain ⟨lj,rfl⟩:=pW hd
   exact ⟨_,_,rfl,aS (cA (cG.to (Et.s (qp (pJ (ws:=(os[j]'lj)) T.aR T.lK (bA (d:=ag (os[j]'lj)) (ae 4 rfl) (ae 7 rfl) rfl (by rw [YI];exact gx (by rw [i4,(ar lj)];rfl))) rfl (by have:=hc.jF (os[j]'lj) (ma (ar lj));omega)) (bK T.aR (bA (d:=ag (os[j]'lj)) (ae 4 rfl) (ae 7 rfl) rfl (by rw [YI];exact gx (by rw [i4,(ar lj)];rfl))) (.inl rfl)))) (cnt (os[j]'lj))) (by simpa using NH.mp hf _ (TM lj))),[7],rfl⟩
  exact aS (de (Ev.s (jQ (ah (b0 ao (Cs _)) (ah jP ao)) (by show 2<=sizeLine;decide))))
end
section
variable {P:Program}{w:World}{K:Frag}{mg:Str->Option Value}{base:Heap}
theorem Ei:∀ l:List Str,oH (l.map tx)
 |[] => True.intro
 |_::l=>⟨True.intro,Ei l⟩
theorem CC {α β:Type}(f : α->Dv)(g : β->Dv):∀ (as:List α) (bs:List β),vH (as.map f) (bs.map g)=(as.zip bs).map fun p=>.tup [f p.1,g p.2]
 |[],_=>rfl
 |_::_,[] => rfl
 |a::as,b::bs=>by
  show Dv.tup [f a,g b]::vH (as.map f) (bs.map g)=_
  rw [CC f g as bs];rfl
theorem XC {α β:Type}{as:List α}{bs:List β}{j:Nat}{p : α×β}(h:(as.zip bs)[j]?=some p):as[j]?=some p.1/\bs[j]?=some p.2:=abD.mp h
theorem xu {n:Nat}:∀ {l:List Str},(∀ w ∈ l,w.length<=n)->(l.map fun x=>x.length).sum<=n*l.length
 |[],_=>ee _
 |a::l,h=>by
  have h1:=xu (l:=l) fun w hw=>h w (.tail _ hw)
  have h2:=h a (.head _)
  rw [ES,List.sum_cons,mf,Nat.mul_succ]
  omega
theorem TN {ts:List Str}{c:LI}{j:Nat}{p:Str×Int}(hl:ts.length=c.length)(h:(ts.zip c)[j]?=some p):bV (ts.take (j+1)) (c.take (j+1))=bV (ts.take j) (c.take j)++[p.1,aO p.2]:=by
 obtain ⟨h1,h2⟩:=XC h
 rw [nQ h1,nQ h2,JG (by rw [DO,DO,hl])]
abbrev nLi:List Str:=["_law_case", "_law_things", "_law_counts", "_law_askers", "_law_orders", "_law_more", "_law_words", "_law_name_here", "_law_count"]
abbrev rL:Stmt:=top 45
theorem wt:cH nLi ["_law_case"] (aD rL):=eA
def OL (dd:List Dv)(t:Tr):Prop:=∃ (ts:List Str) (cs:LI) (as:List Str) (os:List (List Str)) (ms:List Str),Cw ts cs as os/\dd=[dC ts cs as os ms]/\t=aP ((aK ts cs as os).map (Str.join (one 32)))
theorem Sv {f:Addr}{fd:FuncData}{k:Nat}(F:cE K "_law_lines" "_law_lines" rL f fd)(T:Txt mg):bc P w K mg base aG (k+1) f fd ["_law_case"] (spT K OL):=by
 refine fQ F.d wt (fun dd t h=>by obtain ⟨_,_,_,_,_,_,rfl,_⟩:=h;rfl) fun dd t h=>?_
 obtain ⟨ts,cs,as,os,ms,hc,rfl,rfl⟩:=h
 refine ⟨_,.inl rfl,?_⟩
 have big : 5000<sizeLine:=by decide
 have jG:=hc.jG
 have gY:=hc.gY
 have tl:=hc.tl
 have al:=hc.al
 have zl:(as.zip os).length=os.length:=by rw [acy];omega
 have zl2:(ts.zip cs).length=cs.length:=by rw [acy];omega
 refine aE (LJ (Ev.s (ae 0 rfl)) (MQ 1 2 3 4 5 (fun _=>wt.nd)) rfl) ?_
 refine aE (ρ1:=[some (.fz (dC ts cs as os ms)),some (.fz (ag ts)),some (.fz (ag (cs.map aO))),some (.fz (ag as)),some (.fz (.lst (os.map ag))),some (.fz (ag ms)),some (aP ["things"]),none,none]) (bS 6 (Ev.s (b0 (ah bJ ao) (by show 1<=sizeLine;decide))) (fun _=>wt.nd)) ?_
 refine aE (kl (aX.s (aX.to (LD T.Nt (ae 1 rfl) (ae 2 rfl) rfl (show er (.fz (ag (cs.map aO)))=.lst (cs.map fun x=>ds (aO x)) by show Dv.lst _=_;rw [qr];rfl)) (CC ds (fun x=>ds (aO x)) ts cs))) (p9 7 8 (fun _=>wt.nd)) (fun j=>[some (.fz (dC ts cs as os ms)),some (.fz (ag ts)),some (.fz (ag (cs.map aO))),some (.fz (ag as)),some (.fz (.lst (os.map ag))),some (.fz (ag ms)),some (aP ("things" :: bV (ts.take j) (cs.take j))),none,none]) rfl (fun _=>rfl) (fun j d hd=>?_)) ?_
 ·obtain ⟨p,hp,rfl⟩:=iN hd
  rw [TN tl hp]
  have pl:(bV (ts.take j) (cs.take j)).length<=40:=by
   rw [pairs_len (by rw [DO,DO,tl]),DO];omega
  generalize bV (ts.take j) (cs.take j)=W at pl
  refine ⟨_,[some (.fz (dC ts cs as os ms)),some (.fz (ag ts)),some (.fz (ag (cs.map aO))),some (.fz (ag as)),some (.fz (.lst (os.map ag))),some (.fz (ag ms)),some (aP ("things" :: (W++[p.1,aO p.2]))),some (tx p.1),some (tx (aO p.2))],rfl,aS (Rn.to (Uh 6 (us:=(("things" : Str)::W).map tx) (vs':=[tx p.1,tx (aO p.2)]) rfl (Ev.s (b0 (ah (ae 7 rfl) (ah (ae 8 rfl) ao)) (by show 2<=sizeLine;decide))) ?_) ?_),[7,8],rfl⟩
  ·rw [aa,mf];show W.length+1+2<=_;omega
  ·show [_,_,_,_,_,_,some (Tr.ow _),_,_]=[_,_,_,_,_,_,some (Tr.ow (List.map tx ((("things" : Str)::W)++[p.1,aO p.2]))),_,_]
   rw [Cf];rfl
 rw [aa,zl2,Lm (show ts.length<=cs.length by omega),Lm (ee _)]
 have wd:=hc.wd
 have jl:∀ l ∈ aK ts cs as os,(l.map fun x=>x.length).sum+l.length*(Str.ofString " ").length<=16777216:=fun l hl=>by
  obtain ⟨_,wj,lw⟩:=wd l hl
  have:=xu (n:=9) fun w hw=>(lw w hw).l
  show _+l.length*1<=_
  omega
 refine aS (de (Ev.pk (t:=aP ((aK ts cs as os).map (Str.join (one 32)))) (Ev.to (Eb (xs:=[ds (Str.join (one 32) ("things" :: bV ts cs))]) (ys:=((gM as os).map (Str.join (one 32))).map ds) (b0 (ah (Ev.to (t':=tx (Str.join (one 32) ("things" :: bV ts cs))) (nX (ws := "things" :: bV ts cs) bJ (ae 6 rfl) (dW _) (jl _ (.head _))) (by rw [pR,qc])) ao) (by show 1<=sizeLine;decide)) (dh (own:=["_law_name_here", "_law_order_here"]) (fr:=[]) (as.zip os) (fun p=>.tup [ds p.1,ag p.2]) (fun p=>tx (Str.join (one 32) (p.1::p.2))) (fun i=>bQ) (aX.to (LD T.Nt (ae 3 rfl) (ae 4 rfl) rfl rfl) (CC ds ag as os)) (p9 0 1 (fun _=>by show List.Nodup (["_law_name_here", "_law_order_here"]:List Str);decide)) (by decide) (by omega) (fun p hp=>⟨_,rfl,by
   have hm:p.1::p.2 ∈ aK ts cs as os:=by
    refine LH _ ?_
    show _ ∈ gM as os
    unfold gM
    rw [vj]
    exact zd.mpr ⟨p,hp,rfl⟩
   have wj:=(wd _ hm).2.1
   rw [mf] at wj
   refine Ev.to (nX (ws:=p.1::p.2) bJ (Eb (xs:=[ds p.1]) (ys:=p.2.map ds) (b0 (ah (ae 0 rfl) ao) (by show 1<=sizeLine;decide)) (ae 1 rfl) rfl rfl (by rw [aa];show 1+_<=_;omega)) (by rw [gk];rfl) (jl _ hm)) (by rw [pR,qc])⟩) (fun dd=>by rcases dd with _ | ⟨x,_ | ⟨y,r⟩⟩<;>rfl)) rfl ?_ ?_) ?_) (Ei _)))
 ·rw [rX]
  show Dv.lst _=Dv.lst _
  unfold gM
  rw [vj,qr,qr];rfl
 ·rw [aa,aa,wU hc];show 1+_<=_;omega
 ·show Tr.ow _=Tr.ow (List.map tx (List.map _ (_::gM as os)))
  rw [Cf,qr]
  show Tr.ow (_::_)=Tr.ow (_::_)
  rw [qr,qr];rfl
end
section
variable {P:Program}{w:World}{K:Frag}{mg:Str->Option Value}{base:Heap}
def jH (w:Str):Prop:=w.length<=10/\32 ∉ w.cps.toList/\10 ∉ w.cps.toList
instance (w:Str):Decidable (jH w):=by unfold jH;infer_instance
structure Bs (W:List (List Str)):Prop where
 l1 : 1<=W.length
 l2:W.length<=21
 w:∀ l ∈ W,l ≠ []/\l.length<=41/\∀ x ∈ l,jH x
theorem Cw.bs {ts:List Str}{cs:LI}{as:List Str}{os:List (List Str)}(h:Cw ts cs as os):Bs (aK ts cs as os):=by
 have gY:=h.gY
 have al:=h.al
 refine ⟨by unfold aK;rw [mf];omega,by unfold aK;rw [mf,wU h];omega,fun l hl=>?_⟩
 obtain ⟨w1,w2,w3⟩:=h.wd l hl
 exact ⟨w1,w2,fun x hx=>⟨by have:=(w3 x hx).l;omega,(w3 x hx).fr 32 (by decide),(w3 x hx).fr 10 (by decide)⟩⟩
theorem MS {W:List (List Str)}(h1:W.length<=60)(h:∀ l ∈ W,l ≠ []/\l.length<=60/\∀ x ∈ l,jH x):gw W :=
 ⟨h1,fun l hl=>(h l hl).1,fun l hl=>(h l hl).2.1,fun l hl x hx=>by have:=((h l hl).2.2 x hx).1;omega,fun l hl x hx=>((h l hl).2.2 x hx).2.1,fun l hl x hx=>((h l hl).2.2 x hx).2.2⟩
theorem Bs.set {W:List (List Str)}(h:Bs W)(n:Nat){l:List Str}(hl:l ≠ []/\l.length<=60/\∀ x ∈ l,jH x):gw (W.set n l):=by
 have:=h.l2
 refine MS (by rw [EN];omega) fun x hx=>?_
 rcases JJ hx with z | z
 ·obtain ⟨a,b,c⟩:=h.w x z
  exact ⟨a,by omega,c⟩
 ·rw [z];exact hl
theorem sP {c:cm}{W:List (List Str)}(h:Bs W){n:Nat}(hn:n<W.length){l:List Str}(hl:l ≠ []/\l.length<=60/\∀ x ∈ l,jH x)(h0:n=0->kA l=true\/jj l=true)(h1:n ≠ 0->ib l=true):Rd c (ds (bL (W.set n l))) .text:=by
 have ok:=h.set n hl
 cases W with
 |nil=>exact absurd hn (acR _)
 |cons w R =>
  cases n with
  |zero =>
   cases l with
   |nil=>exact absurd rfl hl.1
   |cons a l =>
    refine Rd.bad a l R ok ?_
    rcases h0 rfl with z | z
    ·exact .inl z
    ·exact .inr (.inl z)
  |succ n =>
   cases w with
   |nil=>exact absurd rfl (h.w [] (.head _)).1
   |cons a w =>
    refine Rd.bad a w (R.set n l) ok (.inr (.inr ⟨l,?_,h1 (by omega)⟩))
    exact acV (by simpa using hn) l
theorem MT {c:cm}{W:List (List Str)}(h:Bs W){l:List Str}(hl:l ≠ []/\l.length<=60/\∀ x ∈ l,jH x)(h1:ib l=true):Rd c (ds (bL (W++[l]))) .text:=by
 have l2:=h.l2
 have ok:gw (W++[l]):=MS (by rw [ir];show _+1<=_;omega) fun x hx=>by
  rcases ij.mp hx with z | z
  ·obtain ⟨a,b,c⟩:=h.w x z
   exact ⟨a,by omega,c⟩
  ·rw [mT.mp z];exact hl
 cases W with
 |nil=>exact absurd h.l1 (by decide)
 |cons w R =>
  cases w with
  |nil=>exact absurd rfl (h.w [] (.head _)).1
  |cons a w=>exact Rd.bad a w (R++[l]) ok (.inr (.inr ⟨l,ff _ (mT.mpr rfl),h1⟩))
theorem sE {l:List Str}{x:Str}(h:x ∈ l)(hx:eV x=false):ib l=true:=by
 unfold ib
 rw [WS,acd]
 exact ⟨false,zd.mpr ⟨x,h,hx⟩,by decide⟩
theorem Mf {α:Type}{n k:Nat}{l:List α}{x : α}(h:l[n+2*k]?=some x):x ∈ aL n l:=by
 unfold aL
 have:=(gz.mp h).1
 exact ID.mpr ⟨k,NO.mpr (by omega),h⟩
theorem Ej {l:List Str}{x:Str}(k:Nat)(h:l[1+2*k]?=some x)(hx:eV x=false):jj l=true:=by
 unfold jj
 rw [abW,WS,acd]
 exact .inl ⟨false,zd.mpr ⟨x,Mf h,hx⟩,by decide⟩
theorem XD {l:List Str}{x:Str}(k:Nat)(h:l[2+2*k]?=some x)(hx:ji x=false):jj l=true:=by
 unfold jj
 rw [abW,WS,WS,acd (l:=(aL 2 l).map ji)]
 exact .inr ⟨false,zd.mpr ⟨x,Mf h,hx⟩,by decide⟩
abbrev tI:List Str:=[("thing" : Str), "Things", "", "things:"]
abbrev yp:List (List Str):=[[("A" : Str)],["b1"],["b-"],["B", "1"]]
abbrev xZ:List Str:=[(" A" : Str), " b1", " b-", " B 1"]
abbrev qM:List Str:=[("01" : Str), "+1", "-1", "1.0", "1234567890", "0000000001", "a", "1_0"]
def ub:List Str->List Str
 |[] => []
 |a::r=>a :: "" :: (r++[("" : Str)])
def j6 (W:List (List Str))(n:Nat)(way cell:Int):Dv :=
 if way=0 then ds (bL (W.set 0 (tI.getD (cell % 4).toNat "" :: (W.getD 0 []).drop 1))) else
 if way=1 then ds (bL (W.set n (ub (W.getD n [])))) else
 if way=2 then ds (bL (W.set n (if cell / 7 % 2=0 then W.getD n []++[("" : Str)] else "" :: W.getD n []))) else
 if way=3 then ds (bL (W++[[("" : Str)]])) else
 if way=4 then ds (bL (W.set (W.length-1) (W.getD (W.length-1) []++yp.getD (cell % 4).toNat []))) else
 if way=5 then ds (bL (W.set 0 (W.getD 0 []++[("cake" : Str),qM.getD (cell / 7 % 8).toNat ""]))) else
 if way=6 then ds (bL (W++[[("ninesigns" : Str)]])) else
 [dn,di 5,.lst [ds (bL W)],.tup [ds (bL W)]].getD (cell % 4).toNat dn
theorem mod_lt (x:Int){m:Int}(h : 0<m) : 0<=x % m/\x % m<m:=⟨BN x (by omega),AL x h⟩
theorem kg {α:Type}{l:List α}{d : α}{p : α->Prop}(h:∀ x ∈ l,p x){n:Nat}(hn:n<l.length):p (l.getD n d):=by
 rw [br,ar hn]
 exact h _ (TM hn)
theorem Bs.at {W:List (List Str)}(h:Bs W){n:Nat}(hn:n<W.length):W.getD n [] ≠ []/\(W.getD n []).length<=41/\∀ x ∈ W.getD n [],jH x:=kg h.w hn
theorem tJ:eV "" = false:=by decide +kernel
theorem vM:jH "" := by decide +kernel
theorem XF {c:cm}{ts:List Str}{cs:LI}{as:List Str}{os:List (List Str)}(hc:Cw ts cs as os){n:Nat}(hn:n<(aK ts cs as os).length)(way cell:Int):Rd c (j6 (aK ts cs as os) n way cell) .text:=by
 have bs:=hc.bs
 have g0:(aK ts cs as os).getD 0 []=("things" : Str)::bV ts cs:=rfl
 have pl:(bV ts cs).length=2*ts.length:=pairs_len hc.tl
 have jG:=hc.jG
 have pj:=bs.at hn
 have yZ:=bs.at (n:=0) bs.l1
 have wl:(aK ts cs as os).length=as.length+1:=by unfold aK;rw [mf,wU hc,hc.al]
 unfold j6
 split
 ·obtain ⟨i0,i1⟩:=mod_lt cell (m:=4) (by decide)
  have hA:∀ x ∈ tI,x ≠ "things" /\ jH x:=by decide +kernel
  have hx:=kg (d:=("" : Str)) hA (n:=(cell % 4).toNat) (by show _<4;omega)
  rw [g0] at yZ ⊢
  refine sP bs bs.l1 ⟨by simp,?_,fun x jE=>?_⟩ (fun _=>.inl ?_) (fun z=>absurd rfl z)
  ·show (bV ts cs).length+1<=60;omega
  ·rcases gr.mp jE with rfl | z
   ·exact hx.2
   ·exact yZ.2.2 x (LH _ z)
  ·unfold kA
   show (!decide (V.str (tI.getD (cell % 4).toNat "")=V.str "things") || _)=true
   rw [xE hx.1];rfl
 split
 ·cases hg:(aK ts cs as os).getD n [] with
  |nil=>exact absurd hg pj.1
  |cons a r =>
   rw [hg] at pj
   refine sP bs hn ⟨by simp [ub],?_,fun x jE=>?_⟩ (fun z=>.inr (Ej 0 (x := "") rfl tJ)) (fun z=>sE (x := "") (.tail _ (.head _)) tJ)
   ·have:=pj.2.1
    rw [mf] at this
    show (r++[("" : Str)]).length+1+1<=60
    rw [ir];show r.length+1+1+1<=60;omega
   ·rcases gr.mp jE with rfl | z
    ·exact pj.2.2 _ (.head _)
    ·rcases gr.mp z with rfl | z
     ·exact vM
     ·rcases ij.mp z with z | z
      ·exact pj.2.2 x (.tail _ z)
      ·rw [mT.mp z];exact vM
 split
 ·have wj:=pj.2.1
  split
  ·refine sP bs hn ⟨by simp,?_,fun x jE=>?_⟩ (fun z=>.inr ?_) (fun z=>sE (x := "") (ff _ (.head _)) tJ)
   ·rw [ir];show _+1<=60;omega
   ·rcases ij.mp jE with z | z
    ·exact pj.2.2 x z
    ·rw [mT.mp z];exact vM
   ·subst z
    rw [g0]
    refine Ej ts.length (x := "") ?_ tJ
    rw [BS (by rw [mf,pl];omega),show 1+2*ts.length-(("things" : Str)::bV ts cs).length=0 by rw [mf,pl];omega];rfl
  ·refine sP bs hn ⟨by simp,?_,fun x jE=>?_⟩ (fun z=>.inl ?_) (fun z=>sE (x := "") (.head _) tJ)
   ·rw [mf];omega
   ·rcases gr.mp jE with rfl | z
    ·exact vM
    ·exact pj.2.2 x z
   ·unfold kA
    show (!decide (V.str ("" : Str)=V.str "things") || _)=true
    rw [xE (show ("" : Str) ≠ "things" by decide +kernel)];rfl
 split
 ·refine MT bs ⟨by simp,by decide,fun x jE=>by rw [mT.mp jE];exact vM⟩ (sE (x := "") (.head _) tJ)
 split
 ·obtain ⟨i0,i1⟩:=mod_lt cell (m:=4) (by decide)
  have hB:∀ l ∈ yp,∃ x r,l=x::r/\eV x=false/\r.length<=1/\∀ y ∈ l,jH y:=fun l hl=>by
   have:∀ l ∈ yp,l ≠ []/\eV (l.headD "")=false/\l.length<=2/\∀ y ∈ l,jH y:=by decide +kernel
   obtain ⟨h1,h2,h3,h4⟩:=this l hl
   cases l with
   |nil=>exact absurd rfl h1
   |cons x r=>exact ⟨x,r,rfl,h2,by rw [mf] at h3;omega,h4⟩
  obtain ⟨x,r,el,hx,hr,hw⟩:=kg (d:=[]) hB (n:=(cell % 4).toNat) (by show _<4;omega)
  rw [el] at hw ⊢
  have Q3:=bs.at (n:=(aK ts cs as os).length-1) (by omega)
  have wj:=Q3.2.1
  refine sP bs (by omega) ⟨by simp,?_,fun y hy=>?_⟩ (fun z=>.inr ?_) (fun z=>sE (x:=x) (ff _ (.head _)) hx)
  ·rw [ir,mf];omega
  ·rcases ij.mp hy with z | z
   ·exact Q3.2.2 y z
   ·exact hw y z
  ·rw [z,g0]
   refine Ej ts.length (x:=x) ?_ hx
   rw [BS (by rw [mf,pl];omega),show 1+2*ts.length-(("things" : Str)::bV ts cs).length=0 by rw [mf,pl];omega];rfl
 split
 ·obtain ⟨i0,i1⟩:=mod_lt (cell / 7) (m:=8) (by decide)
  have hC:∀ x ∈ qM,ji x=false/\jH x:=by decide +kernel
  have hx:=kg (d:=("" : Str)) hC (n:=(cell / 7 % 8).toNat) (by show _<8;omega)
  have wj:=yZ.2.1
  refine sP bs bs.l1 ⟨by simp,?_,fun y hy=>?_⟩ (fun _=>.inr ?_) (fun z=>absurd rfl z)
  ·rw [ir];show _+2<=60;omega
  ·rcases ij.mp hy with z | z
   ·exact yZ.2.2 y z
   ·rcases gr.mp z with rfl | z
    ·decide +kernel
    ·rw [mT.mp z];exact hx.2
  ·rw [g0]
   refine XD ts.length ?_ hx.1
   rw [BS (by rw [mf,pl];omega),show 2+2*ts.length-(("things" : Str)::bV ts cs).length=1 by rw [mf,pl];omega];rfl
 split
 ·refine MT bs ⟨by simp,by decide,fun x jE=>by rw [mT.mp jE];decide +kernel⟩ (sE (x := "ninesigns") (.head _) (by decide +kernel))
 ·obtain ⟨i0,i1⟩:=mod_lt cell (m:=4) (by decide)
  refine Rd.no _ ?_
  have hN:∀ d ∈ ([dn,di 5,.lst [ds (bL (aK ts cs as os))],.tup [ds (bL (aK ts cs as os))]]:List Dv),Fz d:=fun d hd=>by
   rcases gr.mp hd with rfl | hd
   ·exact .inl rfl
   ·rcases gr.mp hd with rfl | hd
    ·exact .inr (.inl ⟨_,rfl⟩)
    ·rcases gr.mp hd with rfl | hd
     ·exact .inr (.inr (.inl ⟨_,rfl⟩))
     ·rw [mT.mp hd];exact .inr (.inr (.inr ⟨_,rfl⟩))
  exact kg hN (by show _<4;omega)
end
section
variable {P:Program}{w:World}{K:Frag}{mg:Str->Option Value}{base:Heap}
theorem NK:(Str.ofString "").cps.toList=[]:=by decide +kernel
theorem cat_e (w:Str):w++(⟨#[]⟩:Str)=w:=Tx.ext (by rw [Tx.dI];exact CS _)
theorem xG (w:Str):w++(Str.ofString "")=w:=Tx.ext (by rw [Tx.dI,NK];exact CS _)
theorem EW (w:Str):(Str.ofString "")++w=w:=Tx.ext (by rw [Tx.dI,NK];rfl)
theorem NM (d:Str)(l:List Str):∃ Z,∀ w,Str.join d (w::l)=w++Z:=by
 cases l with
 |nil=>exact ⟨⟨#[]⟩,fun w=>(cat_e w).symm⟩
 |cons b r=>exact ⟨d++Str.join d (b::r),fun w=>by show w++d++Str.join d (b::r)=_;rw [g9]⟩
theorem JK (l:List Str)(R:List (List Str)):∃ Z,∀ w,bL ((w::l)::R)=w++Z:=by
 obtain ⟨Z1,h1⟩:=NM (one 32) l
 obtain ⟨Z2,h2⟩:=NM (one 10) (R.map (Str.join (one 32)))
 exact ⟨Z1++Z2,fun w=>by show Str.join (one 10) (Str.join (one 32) (w::l)::_)=_;rw [h2,h1,g9]⟩
theorem UL (a Z:Str):(⟨((a++Z).cps.toList.drop a.length).toArray⟩:Str)=Z:=Tx.ext (by
 show List.drop _ _=_
 rw [Tx.dI,show a.length=a.cps.toList.length from (AN).symm,List.drop_left])
theorem Y7 (l:List Str)(R:List (List Str))(o:Str):o++(⟨((bL ((("things" : Str)::l)::R)).cps.toList.drop 6).toArray⟩:Str)=bL ((o::l)::R):=by
 obtain ⟨Z,h⟩:=JK l R
 rw [h,h]
 congr 1
 exact UL "things" Z
theorem Y8 (a:Str)(r:List Str):∃ rr,Str.join (one 32) (a::r)++(⟨#[32]⟩:Str)=a++⟨#[32]⟩++rr/\a++(⟨#[32,32]⟩:Str)++rr=Str.join (one 32) (ub (a::r)):=by
 cases r with
 |nil =>
  refine ⟨⟨#[]⟩,(cat_e _).symm,?_⟩
  show _=a++one 32++((Str.ofString "")++one 32++(Str.ofString ""))
  rw [EW,xG,cat_e]
  exact Tx.ext (by rw [Tx.dI,Tx.dI,Tx.dI,GS];rfl)
 |cons b t =>
  refine ⟨Str.join (one 32) (b::t)++one 32,?_,?_⟩
  ·show a++one 32++Str.join (one 32) (b::t)++one 32=a++one 32++(Str.join (one 32) (b::t)++one 32)
   rw [g9]
  ·show _=a++one 32++((Str.ofString "")++one 32++Str.join (one 32) ((b::t)++[(Str.ofString "")]))
   rw [join_snoc _ _ (by simp),EW,xG]
   refine Tx.ext ?_
   simp only [Tx.dI,GS];rfl
theorem jz {L:List Str}(h1:L.length<=60)(h2:∀ x ∈ L,x.length<=5000):(L.map fun x=>x.length).sum+L.length*(Str.ofString "\n").length<=16777216:=by
 have:=xu h2
 show _+L.length*1<=_
 omega
theorem Kh (d y:Str):∀ {L:List Str},L ≠ []->Str.join d L++y=Str.join d (L.set (L.length-1) (L.getD (L.length-1) ""++y))
 |[],h=>absurd rfl h
 |[a],_=>rfl
 |a::b::r,_=>by
  have ih:=Kh d y (L:=b::r) (by simp)
  show a++d++Str.join d (b::r)++y=Str.join d (a::(b::r).set ((b::r).length-1) ((b::r).getD ((b::r).length-1) ""++y))
  cases he:(b::r).set ((b::r).length-1) ((b::r).getD ((b::r).length-1) ""++y) with
  |nil=>simp at he
  |cons b' r' =>
   show _=a++d++Str.join d (b'::r')
   rw [<- he,<- ih,g9,g9]
abbrev nOd:List Str:=["_law_lines_here", "_law_way", "_law_cell", "_law_text", "_law_at", "_law_odd_here"]
abbrev rV:Stmt:=top 46
theorem wA:cH nOd ["_law_lines_here", "_law_way", "_law_cell"] (aD rV):=eA
def OM (tr:List Tr)(d:Dv):Prop:=∃ (ts:List Str) (cs:LI) (as:List Str) (os:List (List Str)) (way cell:Int),Cw ts cs as os/\tr=[aP ((aK ts cs as os).map (Str.join (one 32))),ti way,ti cell]/\d=j6 (aK ts cs as os) (cell % ((aK ts cs as os).length:Int)).toNat way cell
theorem xH {l:List Str}{i:Int}(h0 : 0<=i)(h1:i<l.length):cC (l.map ds) i=some (ds (l.getD i.toNat "")):=sO h0 h1
theorem Te {f:Addr}{fd:FuncData}{k:Nat}(F:cE K "_law_odd" "_law_odd" rV f fd)(T:Txt mg):bc P w K mg base aG (k+1) f fd ["_law_lines_here", "_law_way", "_law_cell"] (vI K OM):=by
 refine Wg F.d wA (fun tr d h=>by obtain ⟨_,_,_,_,_,_,_,rfl,_⟩:=h;rfl) fun tr d h=>?_
 obtain ⟨ts,cs,as,os,way,cell,hc,rfl,rfl⟩:=h
 have ok:=hc.ok
 have bs:=hc.bs
 have l1:=bs.l1
 have l2:=bs.l2
 have hW:aK ts cs as os=(("things" : Str)::bV ts cs)::gM as os:=rfl
 have big : 300000<sizeLine:=by decide
 have OO:(bL (aK ts cs as os)).length<=255660:=ok.text
 generalize hWg:aK ts cs as os=W at ok bs l1 l2 hW OO
 have ll:(W.map (Str.join (one 32))).length=W.length:=aa _
 have lz:∀ x ∈ W.map (Str.join (one 32)),x.length<=4260:=fun x hx=>by
  obtain ⟨l,hl,rfl⟩:=zd.mp hx
  exact ok.line hl
 obtain ⟨n0,n1⟩:=mod_lt cell (m:=(W.length:Int)) (by omega)
 show cz _ _ [some (aP (W.map (Str.join (one 32)))),some (ti way),some (ti cell),none,none,none] _
 refine aE (ρ1:=[some (aP (W.map (Str.join (one 32)))),some (ti way),some (ti cell),some (tx (bL W)),none,none]) (bS 3 (cF.to (t':=tx (bL W)) (Ev.pk (nX (ws:=W.map (Str.join (one 32))) bJ (ae 0 rfl) (dW _) (jz (by omega) fun x hx=>by have:=lz x hx;omega)) True.intro) (by rw [pR,mR])) (fun _=>wA.nd)) ?_
 generalize hn:(cell % (W.length:Int)).toNat=n
 have en:cell % (W.length:Int)=(n:Int):=by omega
 have nl:n<W.length:=by omega
 refine aE (ρ1:=[some (aP (W.map (Str.join (one 32)))),some (ti way),some (ti cell),some (tx (bL W)),some (ti n),none]) (bS 4 (Ev.pk (t:=ti n) (Ev.to (bU (ae 2 rfl) (bK T.aR (ae 0 rfl) (.inl (dW _))) (by rw [aa,ll];omega)) (by rw [aa,ll,en])) True.intro) (fun _=>wA.nd)) ?_
 obtain ⟨i0,i1⟩:=mod_lt cell (m:=4) (by decide)
 have cd:∀ m:Int,0<m->m<100->qj cell m:=fun m a b=>⟨by omega,fg (by omega) (by omega)⟩
 have y4:cC ((W.map (Str.join (one 32))).map ds) (n:Int)=some (ds (Str.join (one 32) (W.getD n []))):=gx (by rw [i4,i4,br,ar nl];rfl)
 have Y9:cC ((W.map (Str.join (one 32))).map ds) (0:Int)=some (ds (Str.join (one 32) (W.getD 0 []))):=by
  rw [hW];exact gD _ _
 have zn:(Str.join (one 32) (W.getD n [])).length<=4260:=by
  rw [br,ar nl]
  exact ok.line (TM nl)
 have z0:(Str.join (one 32) (W.getD 0 [])).length<=4260:=by
  rw [br,ar (show 0<W.length by omega)]
  exact ok.line (TM _)
 have sets:∀ (m:Nat) (l:List Str),((W.map (Str.join (one 32))).map tx).set m (tx (Str.join (one 32) l))=((W.set m l).map (Str.join (one 32))).map tx:=fun m l=>by
  rw [abO,abO]
 have OQ:∀ (l:List Str),(Str.join (one 32) l).length<=5000->(((W.set n l).map (Str.join (one 32))).map fun x=>x.length).sum+((W.set n l).map (Str.join (one 32))).length*(Str.ofString "\n").length<=16777216:=fun l hl=>by
  refine jz (by rw [aa,EN];omega) fun x hx=>?_
  rw [abO] at hx
  rcases JJ hx with z | z
  ·have:=lz x z;omega
  ·rw [z];exact hl
 refine kh (Et.s (eh (ae 1 rfl) af)) (fun h=>?_) fun h=>?_
 ·unfold j6
  rw [Cn (Na h)]
  refine aS (de (cF.to (Ev.s (nY (bA (d:=ds (tI.getD (cell % 4).toNat "")) (b0 (ah bJ (ah bJ (ah bJ (ah bJ ao)))) (by show 4<=sizeLine;decide)) (bU (ae 2 rfl) af (by decide)) (show er _=.lst (tI.map ds) from rfl) (xH i0 (by show _<(4:Int);exact i1))) (We (n:=6) (ae 3 rfl) af ?_ (by omega)) ?_)) ?_))
  ·obtain ⟨Z,hZ⟩:=JK (bV ts cs) (gM as os)
   rw [hW,hZ,len_cat]
   show 6<=6+_
   omega
  ·have hA:∀ x ∈ tI,x.length<=10:=by decide +kernel
   have:=kg (d:=("" : Str)) hA (n:=(cell % 4).toNat) (by show _<4;omega)
   have:(⟨((bL W).cps.toList.drop 6).toArray⟩:Str).length<=255660:=by
    show (List.toArray _).size<=_
    rw [i8,EO,AN]
    exact EM (Nat.sub_le _ _) OO
   omega
  ·show Tr.fz (ds _)=Tr.fz (ds _)
   rw [hW]
   exact congrArg (fun z=>Tr.fz (ds z)) (Y7 _ _ _)
 have h0:=OE h
 refine kh (Et.s (eh (ae 1 rfl) af)) (fun h=>?_) fun h=>?_
 ·unfold j6
  rw [AM h0,Cn (Na h)]
  obtain ⟨a,r,hg⟩:∃ a r,W.getD n []=a::r:=by
   cases hg:W.getD n [] with
   |nil=>exact absurd hg (bs.at nl).1
   |cons a r=>exact ⟨a,r,rfl⟩
  obtain ⟨rr,e1,e2⟩:=Y8 a r
  have ha : 32 ∉ a.cps.toList:=((bs.at nl).2.2 a (by rw [hg];exact .head _)).2.1
  rw [hg] at y4 zn ⊢
  refine aE (ρ1:=[some (aP ((W.set n (ub (a::r))).map (Str.join (one 32)))),some (ti way),some (ti cell),some (tx (bL W)),some (ti n),none]) (Rn.to (Ky 0 (us:=(W.map (Str.join (one 32))).map tx) (n:=(n:Int)) (m:=n) (t:=tx (Str.join (one 32) (ub (a::r)))) rfl (Ev.s (ae 4 rfl)) (by rw [aa,ll];unfold iY;rw [Cn (by omega),Cn (by omega)];rfl) (Ev.pk (Ev.to (Wf (b:=a) (r:=rr) (bA (d:=ds (Str.join (one 32) (a::r))) (ae 0 rfl) (ae 4 rfl) (dW _) y4) e1 ha (by omega)) (by rw [e2])) True.intro) (hps:=fun i=>D2 (pv 0) (eI i) set_list)) ?_) ?_
  ·show [some (Tr.ow _),_,_,_,_,_]=[some (Tr.ow _),_,_,_,_,_]
   rw [sets]
  ·refine aS (de (cF.to (Ev.pk (t:=tx _) (nX (ws:=(W.set n (ub (a::r))).map (Str.join (one 32))) bJ (ae 0 rfl) (dW _) (OQ _ ?_)) True.intro) ?_))
   ·have:(a++(⟨#[32,32]⟩:Str)++rr).length=(Str.join (one 32) (a::r)++(⟨#[32]⟩:Str)).length+1:=by
     rw [e1,len_cat,len_cat,len_cat,len_cat]
     show a.length+2+rr.length=a.length+1+rr.length+1
     omega
    rw [<- e2,this,len_cat]
    show _+1+1<=5000
    omega
   ·rw [pR,mR]
 have h1:=OE h
 refine kh (Et.s (eh (ae 1 rfl) af)) (fun h=>?_) fun h=>?_
 ·unfold j6
  rw [AM h0,AM h1,Cn (Na h)]
  obtain ⟨j0,j1⟩:=mod_lt (cell / 7) (m:=2) (by decide)
  have ne:=(bs.at nl).1
  have e2:([Str.join (one 32) (W.getD n [])++one 32,one 32++Str.join (one 32) (W.getD n [])]:List Str).getD (cell / 7 % 2).toNat "" = Str.join (one 32) (if cell / 7 % 2=0 then W.getD n []++[("" : Str)] else "" :: W.getD n []):=by
   by_cases hq:cell / 7 % 2=0
   ·rw [Cn hq,hq,join_snoc _ _ ne,xG];rfl
   ·rw [AM hq,show cell / 7 % 2=1 by omega]
    cases hg:W.getD n [] with
    |nil=>exact absurd hg ne
    |cons a r =>
     show _=(Str.ofString "")++one 32++Str.join (one 32) (a::r)
     rw [EW];rfl
  have sl:(Str.join (one 32) (if cell / 7 % 2=0 then W.getD n []++[("" : Str)] else "" :: W.getD n [])).length<=5000:=by
   rw [<- e2]
   refine kg (p:=fun x:Str=>x.length<=5000) (fun x hx=>?_) (by show _<2;omega)
   rcases gr.mp hx with rfl | hx
   ·rw [len_cat];show _+1<=5000;omega
   ·rw [mT.mp hx,len_cat];show 1+_<=5000;omega
  generalize (if cell / 7 % 2=0 then W.getD n []++[("" : Str)] else "" :: W.getD n [])=l' at e2 sl
  refine aE (ρ1:=[some (aP ((W.set n l').map (Str.join (one 32)))),some (ti way),some (ti cell),some (tx (bL W)),some (ti n),none]) (Rn.to (Ky 0 (us:=(W.map (Str.join (one 32))).map tx) (n:=(n:Int)) (m:=n) (t:=tx (Str.join (one 32) l')) rfl (Ev.s (ae 4 rfl)) (by rw [aa,ll];unfold iY;rw [Cn (by omega),Cn (by omega)];rfl) (Ev.pk (Ev.to (bA (d:=ds (([Str.join (one 32) (W.getD n [])++one 32,one 32++Str.join (one 32) (W.getD n [])]:List Str).getD (cell / 7 % 2).toNat "")) (b0 (ah (Ev.to (t':=tx (Str.join (one 32) (W.getD n [])++one 32)) (nY (bA (d:=ds (Str.join (one 32) (W.getD n []))) (ae 0 rfl) (ae 4 rfl) (dW _) y4) bJ (by show _+1<=_;omega)) (by rw [qc])) (ah (Ev.to (t':=tx (one 32++Str.join (one 32) (W.getD n []))) (nY bJ (bA (d:=ds (Str.join (one 32) (W.getD n []))) (ae 0 rfl) (ae 4 rfl) (dW _) y4) (by show 1+_<=_;omega)) (by rw [qc])) ao)) (by show 2<=sizeLine;decide)) (bU (gF (ae 2 rfl) af (cd 7 (by decide) (by decide))) af (by decide)) rfl (xH (l:=[_,_]) j0 (by show _<(2:Int);exact j1))) (by rw [e2])) True.intro) (hps:=fun i=>D2 (pv 0) (eI i) set_list)) ?_) ?_
  ·show [some (Tr.ow _),_,_,_,_,_]=[some (Tr.ow _),_,_,_,_,_]
   rw [sets]
  ·refine aS (de (cF.to (Ev.pk (t:=tx _) (nX (ws:=(W.set n l').map (Str.join (one 32))) bJ (ae 0 rfl) (dW _) (OQ _ sl)) True.intro) ?_))
   rw [pR,mR]
 have h2:=OE h
 have Wne:W ≠ []:=by rw [hW];simp
 have Hu:W.map (Str.join (one 32)) ≠ []:=fun z=>Wne (acw.mp z)
 refine kh (Et.s (eh (ae 1 rfl) af)) (fun h=>?_) fun h=>?_
 ·unfold j6
  rw [AM h0,AM h1,AM h2,Cn (Na h)]
  refine aS (de (cF.to (Ev.s (nY (ae 3 rfl) bJ (by show _+1<=_;omega))) ?_))
  show Tr.fz (ds _)=Tr.fz (ds (Str.join (one 10) (List.map _ (W++[[("" : Str)]]))))
  rw [Cf,mR]
  show _=Tr.fz (ds (Str.join (one 10) (W.map (Str.join (one 32))++[(Str.ofString "")])))
  rw [join_snoc _ _ Hu,xG]
 have h3:=OE h
 refine kh (Et.s (eh (ae 1 rfl) af)) (fun h=>?_) fun h=>?_
 ·unfold j6
  rw [AM h0,AM h1,AM h2,AM h3,Cn (Na h)]
  have hB:∀ x ∈ xZ,x.length<=10:=by decide +kernel
  have:=kg (d:=("" : Str)) hB (n:=(cell % 4).toNat) (by show _<4;omega)
  refine aS (de (cF.to (Ev.s (nY (ae 3 rfl) (bA (d:=ds (xZ.getD (cell % 4).toNat "")) (b0 (ah bJ (ah bJ (ah bJ (ah bJ ao)))) (by show 4<=sizeLine;decide)) (bU (ae 2 rfl) af (by decide)) (show er _=.lst (xZ.map ds) from rfl) (xH i0 (by show _<(4:Int);exact i1))) (by omega))) ?_))
  show Tr.fz (ds _)=Tr.fz (ds _)
  have key:∀ l:List Str,l ≠ []->Str.join (one 32) l++xZ.getD (cell % 4).toNat "" = Str.join (one 32) (l++yp.getD (cell % 4).toNat []):=fun l hl=>by
   have c4:(cell % 4).toNat=0\/(cell % 4).toNat=1\/(cell % 4).toNat=2\/(cell % 4).toNat=3:=by omega
   have x1:(Str.ofString " A")=one 32++(Str.ofString "A"):=by decide +kernel
   have x2:(Str.ofString " b1")=one 32++(Str.ofString "b1"):=by decide +kernel
   have x3:(Str.ofString " b-")=one 32++(Str.ofString "b-"):=by decide +kernel
   have x4:(Str.ofString " B 1")=one 32++(Str.ofString "B")++one 32++(Str.ofString "1"):=by decide +kernel
   rcases c4 with q | q | q | q<;>rw [q]
   ·show _++(Str.ofString " A")=Str.join (one 32) (l++[(Str.ofString "A")])
    rw [join_snoc _ _ hl,x1,g9]
   ·show _++(Str.ofString " b1")=Str.join (one 32) (l++[(Str.ofString "b1")])
    rw [join_snoc _ _ hl,x2,g9]
   ·show _++(Str.ofString " b-")=Str.join (one 32) (l++[(Str.ofString "b-")])
    rw [join_snoc _ _ hl,x3,g9]
   ·show _++(Str.ofString " B 1")=Str.join (one 32) (l++[(Str.ofString "B"),(Str.ofString "1")])
    rw [show l++[(Str.ofString "B"),(Str.ofString "1")]=(l++[(Str.ofString "B")])++[(Str.ofString "1")] by rw [GS];rfl,join_snoc _ _ (by simp),join_snoc _ _ hl,x4]
    simp only [g9]
  refine congrArg (fun z=>Tr.fz (ds z)) ?_
  rw [Kh _ _ Hu,ll]
  show Str.join (one 10) _=Str.join (one 10) _
  rw [abO,<- key _ (bs.at (n:=W.length-1) (by omega)).1]
  congr 3
  rw [br,i4,br,ar (show W.length-1<W.length by omega)];rfl
 have h4:=OE h
 refine kh (Et.s (eh (ae 1 rfl) af)) (fun h=>?_) fun h=>?_
 ·unfold j6
  rw [AM h0,AM h1,AM h2,AM h3,AM h4,Cn (Na h)]
  obtain ⟨j0,j1⟩:=mod_lt (cell / 7) (m:=8) (by decide)
  have hC:∀ x ∈ qM,x.length<=10:=by decide +kernel
  have oc:=kg (d:=("" : Str)) hC (n:=(cell / 7 % 8).toNat) (by show _<8;omega)
  refine aE (ρ1:=[some (aP (W.map (Str.join (one 32)))),some (ti way),some (ti cell),some (tx (bL W)),some (ti n),some (tx (qM.getD (cell / 7 % 8).toNat ""))]) (bS 5 (Ev.s (bA (d:=ds (qM.getD (cell / 7 % 8).toNat "")) (b0 (ah bJ (ah bJ (ah bJ (ah bJ (ah bJ (ah bJ (ah bJ (ah bJ ao)))))))) (by show 8<=sizeLine;decide)) (bU (gF (ae 2 rfl) af (cd 7 (by decide) (by decide))) af (by decide)) (show er _=.lst (qM.map ds) from rfl) (xH j0 (by show _<(8:Int);exact j1)))) (fun _=>wA.nd)) ?_
  generalize qM.getD (cell / 7 % 8).toNat "" = mw at oc
  have x1:(Str.ofString " cake ")=one 32++(Str.ofString "cake")++one 32:=by decide +kernel
  have Za:W.set 0 (W.getD 0 []++[("cake" : Str),mw])=(W.getD 0 []++[("cake" : Str),mw])::W.drop 1:=by rw [hW];rfl
  have e0:Str.join (one 32) (W.getD 0 [])++(Str.ofString " cake ")++mw=Str.join (one 32) (W.getD 0 []++[("cake" : Str),mw]):=by
   rw [show W.getD 0 []++[(Str.ofString "cake"),mw]=(W.getD 0 []++[(Str.ofString "cake")])++[mw] by rw [GS];rfl,join_snoc _ _ (by simp),join_snoc _ _ (bs.at (n:=0) l1).1,x1]
   simp only [g9]
  have zc:(Str.join (one 32) (W.getD 0 [])++(Str.ofString " cake ")).length<=4266:=by
   rw [len_cat];show _+6<=_;omega
  have zs:(Str.join (one 32) (W.getD 0 []++[("cake" : Str),mw])).length<=5000:=by
   rw [<- e0,len_cat];omega
  refine aS (de (cF.to (Ev.pk (t:=tx _) (nX (ws:=(W.set 0 (W.getD 0 []++[("cake" : Str),mw])).map (Str.join (one 32))) bJ (Eb (xs:=[ds (Str.join (one 32) (W.getD 0 []++[("cake" : Str),mw]))]) (ys:=((W.drop 1).map (Str.join (one 32))).map ds) (b0 (ah (Ev.to (t':=tx (Str.join (one 32) (W.getD 0 []++[("cake" : Str),mw]))) (nY (nY (bA (d:=ds (Str.join (one 32) (W.getD 0 []))) (ae 0 rfl) af (dW _) Y9) bJ (by show _+6<=_;omega)) (ae 5 rfl) (by omega)) (by rw [e0])) ao) (by show 1<=sizeLine;decide)) (fM (ae 0 rfl) (dW _) (eS af) gi) rfl ?_ ?_) ?_ ?_) True.intro) ?_))
  ·rw [gk,show ((1:Int))=((1:Nat):Int) from rfl,lu,Zp,Zp]
  ·rw [aa,aa,EO];show 1+_<=_;omega
  ·rw [gk,Za];rfl
  ·refine jz (by rw [aa,EN];omega) fun x hx=>?_
   rw [abO] at hx
   rcases JJ hx with z | z
   ·have:=lz x z;omega
   ·rw [z];exact zs
  ·rw [pR,mR]
 have h5:=OE h
 refine kh (Et.s (eh (ae 1 rfl) af)) (fun h=>?_) fun h=>?_
 ·unfold j6
  rw [AM h0,AM h1,AM h2,AM h3,AM h4,AM h5,Cn (Na h)]
  refine aS (de (cF.to (Ev.s (nY (ae 3 rfl) bJ (by show _+10<=_;omega))) ?_))
  show Tr.fz (ds _)=Tr.fz (ds (Str.join (one 10) (List.map _ (W++[[("ninesigns" : Str)]]))))
  rw [Cf]
  show _=Tr.fz (ds (Str.join (one 10) (W.map (Str.join (one 32))++[(Str.ofString "ninesigns")])))
  rw [join_snoc _ _ Hu,g9,show (Str.ofString "\nninesigns")=one 10++(Str.ofString "ninesigns") by decide +kernel]
 have h6:=OE h
 unfold j6
 rw [AM h0,AM h1,AM h2,AM h3,AM h4,AM h5,AM h6]
 refine aS (de (Ev.s (bA (d:=[dn,di 5,.lst [ds (bL W)],.tup [ds (bL W)]].getD (cell % 4).toNat dn) (b0 (ah jP (ah af (ah (b0 (ah (ae 3 rfl) ao) (by show 1<=sizeLine;decide)) (ah (jQ (ah (ae 3 rfl) ao) (by show 1<=sizeLine;decide)) ao)))) (by show 4<=sizeLine;decide)) (bU (ae 2 rfl) af (by decide)) (show er _=.lst [dn,di 5,.lst [ds (bL W)],.tup [ds (bL W)]] from rfl) ?_)))
 have:=gx (xs:=[dn,di 5,.lst [ds (bL W)],.tup [ds (bL W)]]) (j:=(cell % 4).toNat) (v:=[dn,di 5,.lst [ds (bL W)],.tup [ds (bL W)]].getD (cell % 4).toNat dn) (by rw [br,ar (show (cell % 4).toNat<4 by omega)];rfl)
 rwa [show (((cell % 4).toNat:Nat):Int)=cell % 4 by omega] at this
end
section
variable {P:Program}{w:World}{K:Frag}{mg:Str->Option Value}{base:Heap}
def ek (n:Nat):LI:=(List.range n).map fun i=>0+((i:Nat):Int)
theorem Vt {n:Nat}{x:Int}:x ∈ ek n ↔ 0<=x/\x<n:=by
 unfold ek
 constructor
 ·intro h
  obtain ⟨i,hi,rfl⟩:=zd.mp h
  have:=NO.mp hi
  omega
 ·rintro ⟨h0,h1⟩
  exact zd.mpr ⟨x.toNat,NO.mpr (by omega),by omega⟩
theorem TQ (n:Nat):(ek n).Nodup:=by
 unfold ek
 rw [Nd,ace]
 exact (List.nodup_range (n:=n)).imp fun h z=>h (by omega)
abbrev rF:Stmt:=top 37
theorem RZ:cH ["_law_script", "_law_k"] ["_law_script", "_law_k"] (aD rF):=eA
def x6 (dd:List Dv)(t:Tr):Prop:=∃ (ns:LI) (k:Int),0<=k/\dd=[dis ns,di k]/\t=ti (aW ns k)
theorem R0 {f:Addr}{fd:FuncData}{k:Nat}(F:cE K "_law_cell_at" "_law_cell_at" rF f fd)(T:Txt mg):bc P w K mg base aG (k+1) f fd ["_law_script", "_law_k"] (spT K x6):=by
 refine fQ F.d RZ (fun dd t h=>by obtain ⟨_,_,_,rfl,_⟩:=h;rfl) fun dd t h=>?_
 obtain ⟨ns,j,hj,rfl,rfl⟩:=h
 refine ⟨_,.inl rfl,?_⟩
 by_cases hl:j<ns.length
 ·refine uM (oq (Et.s (qp (ae 1 rfl) (bK T.aR (ae 0 rfl) (.inl rfl)))) ?_ (aS (de (Ev.s (bA (ae 0 rfl) (ae 1 rfl) rfl ?_)))))
  ·rw [aa];exact zw hl
  ·exact cell_in hj hl
 ·refine aE (cA (Et.s (qp (ae 1 rfl) (bK T.aR (ae 0 rfl) (.inl rfl)))) ?_) ?_
  ·rw [aa];exact uu hl
  ·rw [cell_out hj (by omega)]
   exact aS (de (Ev.s af))
def cK (cell:Int)(left:LI):Nat->Int×LI×LI
 |0=>(cell,left,[])
 |k+1=>((cK cell left k).1 / (cK cell left k).2.1.length,(cK cell left k).2.1.eraseIdx ((cK cell left k).1 % (cK cell left k).2.1.length).toNat,(cK cell left k).2.2++[(((cK cell left k).2.1)[((cK cell left k).1 % (cK cell left k).2.1.length).toNat]?).getD 0])
theorem CD (cell:Int)(left:LI):∀ k,k<=left.length->((cK cell left k).2.2++(cK cell left k).2.1).Perm left/\(cK cell left k).2.1.length=left.length-k/\(cK cell left k).2.2.length=k
 |0,_=>⟨.refl _,by simp [cK],rfl⟩
 |k+1,hk=>by
  obtain ⟨h1,h2,h3⟩:=CD cell left k (by omega)
  generalize hs:cK cell left k=s at *
  obtain ⟨c,l,o⟩:=s
  have e:cK cell left (k+1)=(c / l.length,l.eraseIdx (c % l.length).toNat,o++[(l[(c % l.length).toNat]?).getD 0]):=by
   show ((cK cell left k).1 / _,_,_)=_
   rw [hs]
  rw [e]
  have hl : 0<l.length:=by have:l.length=left.length-k:=h2;omega
  have m0:=BN c (show (l.length:Int) ≠ 0 by omega)
  have m1:=AL c (show 0<(l.length:Int) by omega)
  generalize hm:(c % l.length).toNat=m at *
  have wc:m<l.length:=by omega
  refine ⟨?_,?_,by rw [ir];have:o.length=k:=h3;simp [this]⟩
  ·show (o++[(l[m]?).getD 0]++l.eraseIdx m).Perm left
   rw [ar wc,acN,GS]
   exact (abu o (JC wc)).trans h1
  ·show (l.eraseIdx m).length=_
   rw [List.length_eraseIdx_of_lt wc]
   have:l.length=left.length-k:=h2
   omega
def mZ (cell:Int)(n:Nat):Nat:=if cell % 2=0 then n else (cell / 2 % (n+1)).toNat
def sQ (cell:Int)(n:Nat):LI:=(cK (cell / (2*n+2)) (ek n) (mZ cell n)).2.2
theorem size_le (cell:Int)(n:Nat):mZ cell n<=n:=by
 unfold mZ
 split
 ·exact ee _
 ·have:=AL (cell / 2) (show 0<(n:Int)+1 by omega)
  omega
theorem Dn (n:Nat):(ek n).length=n:=by unfold ek;rw [aa,BY]
theorem KU (cell:Int)(n:Nat):(sQ cell n).Nodup/\∀ x ∈ sQ cell n,0<=x/\x<n:=by
 obtain ⟨h,_⟩:=CD (cell / (2*n+2)) (ek n) (mZ cell n) (by rw [Dn];exact size_le cell n)
 refine ⟨(ue.mp (h.nodup_iff.mpr (TQ n))).1,fun x hx=>Vt.mp (h.mem_iff.mp (rf _ hx))⟩
abbrev rM:Stmt:=top 38
theorem nP:cH ["_law_cell", "_law_many", "_law_size", "_law_left", "_law_order_here", "_law_k", "_law_at"] ["_law_cell", "_law_many"] (aD rM):=eA
def MU (dd:List Dv)(t:Tr):Prop:=∃ (cell:Int) (n:Nat),n<=6/\dd=[di cell,di n]/\t=cU (sQ cell n)
theorem Sw {f:Addr}{fd:FuncData}{k:Nat}(F:cE K "_law_order" "_law_order" rM f fd)(T:Txt mg):bc P w K mg base aG (k+1) f fd ["_law_cell", "_law_many"] (spT K MU):=by
 refine fQ F.d nP (fun dd t h=>by obtain ⟨_,_,_,rfl,_⟩:=h;rfl) fun dd t h=>?_
 obtain ⟨cell,n,hn,rfl,rfl⟩:=h
 refine ⟨_,.inl rfl,?_⟩
 have big : 1000<sizeLine:=by decide
 have lU:=size_le cell n
 refine aE (bS 2 (Ev.s (bA (d:=di (mZ cell n)) (b0 (ah (ae 1 rfl) (ah (bU (gF (ae 0 rfl) af ⟨by decide,fg (by decide) (by decide)⟩) (iz (ae 1 rfl) af) (by omega)) ao)) (by show 2<=sizeLine;decide)) (bU (ae 0 rfl) af (by decide)) rfl ?_)) (fun _=>nP.nd)) ?_
 ·show cC [di (n:Int),di (cell / 2 % ((n:Int)+1))] (cell % 2)=_
  have h0:=BN cell (show (2:Int) ≠ 0 by decide)
  have h2:=AL cell (show (0:Int)<2 by decide)
  unfold mZ
  have:cell % 2=0\/cell % 2=1:=by omega
  rcases this with h | h
  ·rw [h,Cn rfl];rfl
  ·rw [h,AM (by decide)]
   have m0:=BN (cell / 2) (show (n:Int)+1 ≠ 0 by omega)
   rw [show (((cell / 2 % ((n:Int)+1)).toNat:Nat):Int)=cell / 2 % ((n:Int)+1) by omega]
   rfl
 refine aE (bS 0 (Ev.s (gF (ae 0 rfl) (iz (vg af (ae 1 rfl) ⟨fg (by decide) (by decide),fg (by omega) (by omega)⟩) af) ⟨by omega,fg (by omega) (by omega)⟩)) (fun _=>nP.nd)) ?_
 refine aE (bS 3 (Ev.s (SN T.Ef T.jN (ae 1 rfl) (by omega) (by omega))) (fun _=>nP.nd)) ?_
 refine aE (bS 4 (Ev.s (b0 ao (Cs _))) (fun _=>nP.nd)) ?_
 refine aE (kl (aX.s (mD T.jN (ae 2 rfl) ⟨by omega,by omega⟩)) (aZ 5 (fun _=>nP.nd)) (fun k=>[some (ti (cK (cell / (2*n+2)) (ek n) k).1),some (ti n),some (ti (mZ cell n)),some (cU (cK (cell / (2*n+2)) (ek n) k).2.1),some (cU (cK (cell / (2*n+2)) (ek n) k).2.2),none,none]) rfl (fun _=>rfl) (fun j d hd=>?_)) ?_
 ·obtain ⟨hj,rfl⟩:=pW hd
  have GV:j<mZ cell n:=by omega
  obtain ⟨p1,p2,p3⟩:=CD (cell / (2*n+2)) (ek n) j (by rw [Dn];omega)
  rw [Dn] at p2
  have e:cK (cell / (2*n+2)) (ek n) (j+1)=((cK (cell / (2*n+2)) (ek n) j).1 / (cK (cell / (2*n+2)) (ek n) j).2.1.length,(cK (cell / (2*n+2)) (ek n) j).2.1.eraseIdx ((cK (cell / (2*n+2)) (ek n) j).1 % (cK (cell / (2*n+2)) (ek n) j).2.1.length).toNat,(cK (cell / (2*n+2)) (ek n) j).2.2++[(((cK (cell / (2*n+2)) (ek n) j).2.1)[((cK (cell / (2*n+2)) (ek n) j).1 % (cK (cell / (2*n+2)) (ek n) j).2.1.length).toNat]?).getD 0]):=rfl
  rw [e]
  generalize cK (cell / (2*n+2)) (ek n) j=s at p1 p2 p3
  obtain ⟨c,l,o⟩:=s
  simp only at p1 p2 p3 ⊢
  have hl : 0<(l.length:Int):=by omega
  have hl6:(l.length:Int)<=6:=by omega
  have m0:=BN c (show (l.length:Int) ≠ 0 by omega)
  have m1:=AL c hl
  have el:(dz (l.map fun n=>Tr.fz (di n))).length=l.length:=by rw [pU,aa,aa]
  have hlm:(((l.map fun n=>Tr.fz (di n)).length:Nat):Int)=l.length:=by rw [aa]
  refine ⟨_,_,rfl,aE (bS 6 (cF.to (t':=ti (c % l.length)) (Ev.pk (bU (ae 0 rfl) (bK T.aR (ae 3 rfl) (.inl rfl)) (by rw [el];exact hl)) True.intro) (by rw [el])) (fun _=>nP.nd))
   (aE (bS 0 (cF.to (t':=ti (c / l.length)) (Ev.pk (gF (ae 0 rfl) (bK T.aR (ae 3 rfl) (.inl rfl)) (by rw [el];exact ⟨hl,fg (by omega) (by omega)⟩)) True.intro) (by rw [el])) (fun _=>nP.nd))
   (aS (Sg 4 3 (d:=di ((l[(c % l.length).toNat]?).getD 0)) (n:=c % l.length) (m:=(c % l.length).toNat) (by decide) rfl rfl (Ev.s (ae 6 rfl)) ?_ ⟨by omega,by omega⟩ ?_ ?_))),[5,6],?_⟩
  ·rw [aa]
   unfold iY
   rw [Cn m0,Cn m1]
  ·rw [i4,ar (show (c % l.length).toNat<l.length by omega)]
   rfl
  ·rw [aa];omega
  ·show [_,_,_,some (Tr.ow (List.eraseIdx _ _)),some (Tr.ow (_++[_])),_,_]=[_,_,_,some (Tr.ow _),some (Tr.ow _),_,_]
   rw [Cf,JX]
   rfl
 ·rw [aa,BY]
  show cz _ _ [_,_,_,_,some (cU (cK (cell / (2*n+2)) (ek n) (mZ cell n)).2.2),_,_] _
  exact aS (VZ 4 rfl)
def gI (ns:LI)(st:Int):LI:=(List.range 13).map fun k=>aW ns (st+(0+((k:Nat):Int)))
theorem UM (ns:LI)(st:Int){k:Nat}(hk:k<13):(gI ns st)[k]?=some (aW ns (st+(0+((k:Nat):Int)))):=by
 unfold gI
 rw [i4,IS hk];rfl
def oP (c:Int):Int:=if c / 10 % 2=0 then c % 4 else c % 10
def fR (th:Nat)(ns:LI)(st:Int):Nat:=(aW ns (st+(0+((0:Nat):Int))) % ((th:Int)+1)).toNat
def mL (th:Nat)(ns:LI)(st:Int):LI:=(cutD (gI ns st) (some 1) (some (1+(fR th ns st:Int)))).map oP
def oQ (ns:LI)(st most:Int):Nat:=(1+aW ns (st+(0+((0:Nat):Int))) / 7 % most).toNat
def qv (ns:LI)(st:Int)(k:Nat):Int:=if aW ns (st+(0+((0:Nat):Int))) / 42 % 3=0/\1<aW ns (st+(0+((7+k:Nat):Int))) % 5 then aW ns (st+(0+((7:Nat):Int))) else aW ns (st+(0+((7+k:Nat):Int)))
def gE (th:Nat)(ns:LI)(st most:Int):LL:=(List.range (oQ ns st most)).map fun k=>sQ (qv ns st k) (fR th ns st)
theorem Vu (th:Nat)(ns:LI)(st:Int):fR th ns st<=th:=by
 unfold fR
 have:=AL (aW ns (st+(0+((0:Nat):Int)))) (show (0:Int)<(th:Int)+1 by omega)
 omega
theorem Dp {th:Nat}(h:th<=6)(ns:LI)(st:Int):fR th ns st<=6:=EM (Vu th ns st) h
theorem UN (th:Nat)(ns:LI)(st:Int):aW ns (st+(0+((0:Nat):Int))) % ((th:Int)+1)=(fR th ns st:Int):=by
 unfold fR
 have:=BN (aW ns (st+(0+((0:Nat):Int)))) (show (th:Int)+1 ≠ 0 by omega)
 omega
theorem Mg {ns:LI}{st most:Int}(h1 : 1<=most)(h6:most<=6) : 1<=oQ ns st most/\oQ ns st most<=6/\(1+aW ns (st+(0+((0:Nat):Int))) / 7 % most=(oQ ns st most:Int)):=by
 unfold oQ
 have a:=BN (aW ns (st+(0+((0:Nat):Int))) / 7) (show most ≠ 0 by omega)
 have b:=AL (aW ns (st+(0+((0:Nat):Int))) / 7) (show 0<most by omega)
 omega
theorem KW {α:Type}(l:List α)(a b:Nat):cutD l (some (a:Int)) (some (b:Int))=(l.drop (min a l.length)).take (min b l.length-min a l.length):=by
 unfold cutD
 rw [HT.wY,HT.wY]
theorem JL {th:Nat}(h6:th<=6)(ns:LI)(st:Int):(mL th ns st).length=fR th ns st:=by
 unfold mL
 have:=Dp h6 ns st
 have e:cutD (gI ns st) (some 1) (some (1+(fR th ns st:Int)))=cutD (gI ns st) (some ((1:Nat):Int)) (some ((1+fR th ns st:Nat):Int)):=by
  congr 2
 rw [aa,e,KW,DO,EO]
 have:(gI ns st).length=13:=by unfold gI;rw [aa,BY]
 omega
theorem Wq (c:Int) : 0<=oP c/\oP c<=9:=by
 unfold oP
 have:=BN c (show (4:Int) ≠ 0 by decide)
 have:=AL c (show (0:Int)<4 by decide)
 have:=BN c (show (10:Int) ≠ 0 by decide)
 have:=AL c (show (0:Int)<10 by decide)
 split<;>omega
theorem XG {th:Nat}(t6:th<=6){ns:LI}{st most:Int}(h1 : 1<=most)(h6:most<=6):xT (mL th ns st) (gE th ns st most):=by
 obtain ⟨n1,n2,_⟩:=Mg (ns:=ns) (st:=st) h1 h6
 refine ⟨by rw [JL t6];exact Dp t6 ns st,fun x hx=>?_,?_,?_,fun o ho=>?_,fun o ho x hx=>?_⟩
 ·obtain ⟨c,_,rfl⟩:=zd.mp hx
  exact Wq c
 ·unfold gE;rw [aa,BY];exact n1
 ·unfold gE;rw [aa,BY];exact n2
 ·obtain ⟨k,_,rfl⟩:=zd.mp ho
  exact (KU _ _).1
 ·obtain ⟨k,_,rfl⟩:=zd.mp ho
  rw [JL t6]
  exact (KU _ _).2 x hx
abbrev rN:Stmt:=top 39
theorem mB:cH ["_law_script", "_law_start", "_law_things", "_law_askers", "_law_cells", "_law_many", "_law_counts", "_law_orders", "_law_k", "_law_cell"] ["_law_script", "_law_start", "_law_things", "_law_askers"] (aD rN):=eA
def MV (dd:List Dv)(t:Tr):Prop:=∃ (th:Nat) (ns:LI) (st most:Int),th<=6/\0<=st/\1<=most/\most<=6/\dd=[dis ns,di st,di th,di most]/\t=.fz (kz (mL th ns st) (gE th ns st most))
theorem Sy {f f1 f2:Addr}{fd cW fd2:FuncData}{k:Nat}(F:cE K "_law_table" "_law_table" rN f fd)(T:Txt mg)(mz:Kn P w K mg base aG (k+1) "_law_cell_at" f1 cW ["_law_script", "_law_k"] (spT K x6))(Ju:Kn P w K mg base aG (k+1) "_law_order" f2 fd2 ["_law_cell", "_law_many"] (spT K MU)):bc P w K mg base aG (k+2) f fd ["_law_script", "_law_start", "_law_things", "_law_askers"] (spT K MV):=by
 refine fQ F.d mB (fun dd t h=>by obtain ⟨_,_,_,_,_,_,_,_,rfl,_⟩:=h;rfl) fun dd t h=>?_
 obtain ⟨th,ns,st,most,t6,dQ,h1,h6,rfl,rfl⟩:=h
 refine ⟨_,.inl rfl,?_⟩
 have big : 1000<sizeLine:=by decide
 have hM:=Dp t6 ns st
 obtain ⟨n1,n2,n3⟩:=Mg (ns:=ns) (st:=st) h1 h6
 have tK:∀ k:Nat,k<13->cC ((gI ns st).map di) ((k:Nat):Int)=some (di (aW ns (st+(0+((k:Nat):Int))))):=fun k hk=>gx (by rw [i4,UM ns st hk];rfl)
 have Zb:(gI ns st).length=13:=by unfold gI;rw [aa,BY]
 refine aE (ρ1:=[some (.fz (dis ns)),some (ti st),some (ti th),some (ti most),some (.fz (dis (gI ns st))),none,none,none,none,none]) (jR 4 (ni (eR.as (d:=dis (gI ns st)) (yJ (own:=["_law_k"]) (fr:=[0,1]) (mD T.jN af ⟨by decide,by decide⟩) (aZ 0 (fun _=>by show List.Nodup (["_law_k", "_law_script", "_law_start"]:List Str);decide)) (by decide) (fun k=>true) (fun k=>ti (aW ns (st+(0+((k:Nat):Int))))) (by rw [aa,BY];show 13<sizeLine;decide) (fun k d hd=>by
   obtain ⟨hk,rfl⟩:=pW hd
   exact ⟨_,rfl,sL,fun _=>bZ mz (ee _) (ah (ae 1 rfl) (ah (iz (ae 2 rfl) (ae 0 rfl)) ao)) ⟨ns,_,by omega,rfl,rfl⟩⟩) (fun dd=>by cases dd<;>rfl)) (by rw [abG.mpr (fun _ _=>rfl),MB];rfl))) (fun i=>bQ) (fun _=>mB.nd)) ?_
 refine aE (bS 5 (cF.to (t':=ti (fR th ns st)) (Ev.s (bU (bA (d:=di (aW ns (st+(0+((0:Nat):Int))))) (ae 4 rfl) af rfl (tK 0 (by decide))) (iz (ae 2 rfl) af) (by omega))) (by rw [UN])) (fun _=>mB.nd)) ?_
 refine aE (jR 6 (ni (eR.as (d:=dis (mL th ns st)) (yJ (own:=["_law_cell"]) (fr:=[]) (bN (fM (ae 4 rfl) rfl (eS af) (eS (iz af (ae 5 rfl)))) (gk _)) (aZ 0 (fun _=>by show List.Nodup (["_law_cell"]:List Str);decide)) (by decide) (fun k=>true) (fun k=>ti ((((cutD (gI ns st) (some 1) (some (1+(fR th ns st:Int)))).map oP)[k]?).getD 0)) ?_ (fun k d hd=>?_) (fun dd=>?_)) ?_)) (fun i=>bQ) (fun _=>mB.nd)) ?_
 ·have:=U4 ((gI ns st).map di) (some 1) (some (1+(fR th ns st:Int)))
  rw [aa,Zb] at this
  omega
 ·rw [Kx] at hd
  obtain ⟨c,hc,rfl⟩:=iN hd
  refine ⟨_,rfl,sL,fun _=>?_⟩
  rw [i4,hc]
  refine bA (d:=di (oP c)) (b0 (ah (bU (ae 0 rfl) af (by decide)) (ah (bU (ae 0 rfl) af (by decide)) ao)) (by show 2<=sizeLine;decide)) (bU (gF (ae 0 rfl) af ⟨by decide,fg (by decide) (by decide)⟩) af (by decide)) rfl ?_
  show cC [di (c % 4),di (c % 10)] (c / 10 % 2)=_
  have a:=BN (c / 10) (show (2:Int) ≠ 0 by decide)
  have b:=AL (c / 10) (show (0:Int)<2 by decide)
  unfold oP
  have:c / 10 % 2=0\/c / 10 % 2=1:=by omega
  rcases this with h | h<;>rw [h]<;>rfl
 ·cases dd<;>rfl
 ·rw [abG.mpr (fun _ _=>rfl),MB,Kx,aa]
  unfold mL
  have:=Jp ((cutD (gI ns st) (some 1) (some (1+(fR th ns st:Int)))).map oP) 0 id
  rw [aa] at this
  simp only [acX,id] at this
  rw [this]
 refine aE (bS 7 (Ev.s (b0 ao (Cs _))) (fun _=>mB.nd)) ?_
 have y6:qj (aW ns (st+(0+((0:Nat):Int)))) 7:=⟨by decide,fg (by decide) (by decide)⟩
 have OS:qj (aW ns (st+(0+((0:Nat):Int)))) 42:=⟨by decide,fg (by decide) (by decide)⟩
 refine aE (kl (its:=nh 0 (oQ ns st most)) (aX.s (aX.to (mD T.jN (iz af (bU (gF (bA (d:=di (aW ns (st+(0+((0:Nat):Int))))) (ae 4 rfl) af rfl (tK 0 (by decide))) af y6) (ae 3 rfl) (by omega))) ?_) ?_)) (aZ 8 (fun _=>mB.nd)) (fun k=>[some (.fz (dis ns)),some (ti st),some (ti th),some (ti most),some (.fz (dis (gI ns st))),some (ti (fR th ns st)),some (.fz (dis (mL th ns st))),some (kr ((gE th ns st most).take k)),none,none]) rfl (fun _=>rfl) (fun j d hd=>?_)) ?_
 ·rw [n3];omega
 ·rw [n3,NJ]
 ·obtain ⟨hj,rfl⟩:=pW hd
  have c7:cC ((gI ns st).map di) (7+(0+(j:Int)))=some (di (aW ns (st+(0+((7+j:Nat):Int))))):=by
   have:=tK (7+j) (by omega)
   rwa [show ((7+j:Nat):Int)=7+(0+(j:Int)) by omega] at this ⊢
  have Zc:(gE th ns st most)[j]?=some (sQ (qv ns st j) (fR th ns st)):=by
   unfold gE
   rw [i4,IS hj];rfl
  have hlen:((gE th ns st most).take j).length<sizeLine:=by
   rw [DO]
   have:(gE th ns st most).length=oQ ns st most:=by unfold gE;rw [aa,BY]
   omega
  have fin:kr ((gE th ns st most).take (j+1))=.ow (((gE th ns st most).take j).map cU++[cU (sQ (qv ns st j) (fR th ns st))]):=by
   rw [nQ Zc]
   show Tr.ow _=_
   rw [Cf];rfl
  rw [fin]
  cases hf:decide (aW ns (st+(0+((0:Nat):Int))) / 42 % 3=0)&&decide (1<aW ns (st+(0+((7+j:Nat):Int))) % 5) with
  |true =>
   have ec:qv ns st j=aW ns (st+(0+((7:Nat):Int))):=by
    unfold qv
    rw [DD,Sm,Sm] at hf
    rw [Cn hf]
   refine ⟨_,_,rfl,aE (bS 9 (Ev.s (bA (ae 4 rfl) (iz af (ae 8 rfl)) rfl c7)) (fun _=>mB.nd)) (aE (oq (Et.s (Ew.et (lF (eh (bU (gF (bA (d:=di (aW ns (st+(0+((0:Nat):Int))))) (ae 4 rfl) af rfl (tK 0 (by decide))) af OS) af (by decide)) af) fun _=>(mJ (i9 (bU (ae 9 rfl) af (by decide)) af))))) hf (aS (bS 9 (Ev.s (bA (d:=di (aW ns (st+(0+((7:Nat):Int))))) (ae 4 rfl) af rfl (tK 7 (by decide)))) (fun _=>mB.nd))))
    (aS (Cq 7 rfl (Ev.s (bZ Ju (ee _) (ah (ae 9 rfl) (ah (ae 5 rfl) ao)) ⟨_,fR th ns st,hM,rfl,rfl⟩)) (by rw [aa];exact hlen)))),[8,9],?_⟩
   rw [ec];rfl
  |false =>
   have ec:qv ns st j=aW ns (st+(0+((7+j:Nat):Int))):=by
    unfold qv
    rw [AM]
    intro z
    rw [zw z.1,zw z.2] at hf
    cases hf
   refine ⟨_,_,rfl,aE (bS 9 (Ev.s (bA (ae 4 rfl) (iz af (ae 8 rfl)) rfl c7)) (fun _=>mB.nd)) (aE (cA (Et.s (Ew.et (lF (eh (bU (gF (bA (d:=di (aW ns (st+(0+((0:Nat):Int))))) (ae 4 rfl) af rfl (tK 0 (by decide))) af OS) af (by decide)) af) fun _=>(mJ (i9 (bU (ae 9 rfl) af (by decide)) af))))) hf)
    (aS (Cq 7 rfl (Ev.s (bZ Ju (ee _) (ah (ae 9 rfl) (ah (ae 5 rfl) ao)) ⟨_,fR th ns st,hM,rfl,rfl⟩)) (by rw [aa];exact hlen)))),[8,9],?_⟩
   rw [ec];rfl
 ·have el:(nh 0 (oQ ns st most)).length=(gE th ns st most).length:=by unfold gE;simp
  rw [el,acm]
  refine By (d:=.lst ((gE th ns st most).map dis)) 7 rfl (wM _) ?_
  exact aS (de (Ev.s (VY (ah (ae 6 rfl) (ah (ae 7 rfl) ao)) rfl (by show 2<=sizeLine;decide))))
end
section
variable {P:Program}{w:World}{K:Frag}{mg:Str->Option Value}{base:Heap}
theorem XH {k:Int}(h0 : 0<=k)(h1:k<26):cC (mK.cps.toList) k=some (97+k.toNat):=by
 have:∀ n:Fin 26,cC (mK.cps.toList) ((n.val:Nat):Int)=some (97+n.val):=by decide +kernel
 have:=this ⟨k.toNat,by omega⟩
 rwa [show ((k.toNat:Nat):Int)=k by omega] at this
def ip (b:LI)(a k:Int)(j:Nat):Nat:=97+((b.getD j 0+k*(if decide ((0+(j:Int))=a) then 1 else 0)) % 26).toNat
def qw (b:LI)(a k:Int):Str:=⟨((List.range b.length).map (ip b a k)).toArray⟩
theorem UO (l:List Nat):Txt.join "" (l.map one)=⟨l.toArray⟩:=by
 refine Tx.ext ?_
 rw [show (Str.ofString "")=(⟨#[]⟩:Str) by decide +kernel,Tx.Va,qr]
 show _=l
 induction l with
 |nil=>rfl
 |cons a l ih=>rw [ES,List.flatten_cons,ih];rfl
theorem XJ (b:LI)(a k:Int)(j:Nat) : 97<=ip b a k j/\ip b a k j<=122:=by
 unfold ip
 generalize b.getD j 0+k*(if decide ((0+(j:Int))=a) then 1 else 0)=y
 have:=BN y (show (26:Int) ≠ 0 by decide)
 have:=AL y (show (0:Int)<26 by decide)
 omega
theorem KY (b:LI)(a k:Int):(qw b a k).length=b.length:=by
 show ((List.range b.length).map (ip b a k)).toArray.size=_
 rw [i8,aa,BY]
theorem Wr {b:LI}{a k:Int}(h1 : 1<=b.length)(h8:b.length<=8):Nm (qw b a k):=by
 refine ⟨by rw [KY];exact h1,by rw [KY];exact h8,fun c hc=>?_⟩
 have hc:c ∈ (List.range b.length).map (ip b a k):=hc
 obtain ⟨j,_,rfl⟩:=zd.mp hc
 exact XJ b a k j
theorem Vv {b:LI}{a k l:Int}(a0 : 0<=a)(a1:a<b.length)(k0 : 0<=k)(k1:k<26)(l0 : 0<=l)(l1:l<26)(h:qw b a k=qw b a l):k=l:=by
 have h:(List.range b.length).map (ip b a k)=(List.range b.length).map (ip b a l):=congrArg (fun z:Str=>z.cps.toList) h
 have:=congrArg (fun z=>z[a.toNat]?) h
 simp only [i4] at this
 rw [IS (show a.toNat<b.length by omega)] at this
 have:ip b a k a.toNat=ip b a l a.toNat:=AE this
 unfold ip at this
 rw [zw (show 0+((a.toNat:Nat):Int)=a by omega)] at this
 simp only [acu] at this
 generalize b.getD a.toNat 0=y at this
 have e1:=BN (y+k*1) (show (26:Int) ≠ 0 by decide)
 have e2:=BN (y+l*1) (show (26:Int) ≠ 0 by decide)
 omega
abbrev nNm:List Str:=["_law_base", "_law_at", "_law_k", "_law_letters"]
abbrev rQ:Stmt:=top 40
theorem Jv:cH nNm ["_law_base", "_law_at", "_law_k"] (aD rQ):=eA
def NN (dd:List Dv)(t:Tr):Prop:=∃ (b:LI) (a k:Int),b.length<=8/\0<=k/\k<=15/\dd=[dis b,di a,di k]/\t=tx (qw b a k)
theorem bool_int (q:Bool):(0:Int)<=(if q then 1 else 0)/\(if q then 1 else 0:Int)<=1:=by cases q<;>decide
theorem S0 {f:Addr}{fd:FuncData}{k:Nat}(F:cE K "_law_name" "_law_name" rQ f fd)(T:Txt mg):bc P w K mg base aG (k+1) f fd ["_law_base", "_law_at", "_law_k"] (spT K NN):=by
 refine fQ F.d Jv (fun dd t h=>by obtain ⟨_,_,_,_,_,_,rfl,_⟩:=h;rfl) fun dd t h=>?_
 obtain ⟨b,a,m,b8,m0,m15,rfl,rfl⟩:=h
 refine ⟨_,.inl rfl,?_⟩
 have big : 1000<sizeLine:=by decide
 refine aE (bS 3 (Ev.s bJ) (fun _=>Jv.nd)) ?_
 refine aS (de (Ev.s (Ev.to (nX (ws:=((List.range b.length).map (ip b a m)).map one) bJ (dh (own:=["_law_j"]) (fr:=[1,0,2,3]) (List.range b.length) (fun j=>di (0+((j:Nat):Int))) (fun j=>tx (one (ip b a m j))) (fun i=>bQ) (aX.to (mD T.jN (bK T.aR (ae 0 rfl) (.inl rfl)) ⟨by omega,by rw [aa];omega⟩) (by rw [aa,NJ])) (aZ 0 (fun _=>by show List.Nodup (["_law_j", "_law_at", "_law_base", "_law_k", "_law_letters"]:List Str);decide)) (by decide) (by rw [BY];omega) (fun j hj=>⟨_,rfl,by
   have hj:=NO.mp hj
   have q:=bool_int (decide ((0+(j:Int))=a))
   have at_:cC (b.map di) (0+(j:Int))=some (di (b.getD j 0)):=by
    have:cC (b.map di) ((j:Nat):Int)=some (di (b.getD j 0)):=gx (by rw [i4,br,ar hj];rfl)
    rwa [YI]
   refine Xk (x:=mK) (c:=ip b a m j) (ae 4 rfl) (bU (iz (bA (d:=di (b.getD j 0)) (ae 2 rfl) (ae 0 rfl) rfl at_) (vg (ae 3 rfl) (V2 T.xW (X2 (ae 0 rfl) (ae 1 rfl))) ⟨fg (by omega) (by omega),fg (by omega) (by omega)⟩)) af (by decide)) (by decide +kernel) ?_
   exact XH (BN _ (by decide)) (AL _ (by decide))⟩) (fun dd=>by cases dd<;>rfl)) ?_ ?_) ?_)))
 ·rw [rX,qr]
  show Dv.lst _=Dv.lst (List.map ds _)
  rw [qr];rfl
 ·have:=xu (n:=1) (l:=((List.range b.length).map (ip b a m)).map one) fun w hw=>by
   obtain ⟨c,_,rfl⟩:=zd.mp hw
   exact ee _
  rw [aa,aa,BY] at this
  show _+(((List.range b.length).map (ip b a m)).map one).length*0<=16777216
  omega
 ·rw [UO];rfl
def fD (cell:Int):Nat->Int
 |0=>cell % 2147483646+1
 |k+1=>fD cell k*48271 % 2147483647
theorem Mh (cell:Int):∀ k,0<=fD cell k/\fD cell k<=2147483647
 |0=>by
  have:=BN cell (show (2147483646:Int) ≠ 0 by decide)
  have:=AL cell (show (0:Int)<2147483646 by decide)
  show 0<=cell % 2147483646+1/\cell % 2147483646+1<=2147483647
  omega
 |k+1=>by
  have:=BN (fD cell k*48271) (show (2147483647:Int) ≠ 0 by decide)
  have:=AL (fD cell k*48271) (show (0:Int)<2147483647 by decide)
  show 0<=fD cell k*48271 % 2147483647/\fD cell k*48271 % 2147483647<=2147483647
  omega
def hG (cell:Int):Nat:=(1+fD cell 0 % 8).toNat
theorem CF (cell:Int) : 1<=hG cell/\hG cell<=8/\1+fD cell 0 % 8=(hG cell:Int):=by
 unfold hG
 generalize fD cell 0=y
 have:=BN y (show (8:Int) ≠ 0 by decide)
 have:=AL y (show (0:Int)<8 by decide)
 omega
def jV (cell:Int):LI:=(List.range (hG cell)).map fun i=>fD cell (i+1) % 26
theorem nT (cell:Int):(jV cell).length=hG cell:=by unfold jV;rw [aa,BY]
def wk (cell:Int):Int:=fD cell (hG cell) / 26 % (hG cell:Int)
def iQ (cell:Int)(n:Nat):List Str:=(List.range n).map fun (k:Nat)=>qw (jV cell) (wk cell) (0+(k:Int))
theorem Ki (cell:Int)(n:Nat):(iQ cell n).length=n:=by unfold iQ;rw [aa,BY]
theorem KZ {cell:Int}{n:Nat}:∀ w ∈ iQ cell n,Nm w:=fun w hw=>by
 obtain ⟨k,_,rfl⟩:=zd.mp hw
 obtain ⟨h1,h8,_⟩:=CF cell
 exact Wr (by rw [nT];exact h1) (by rw [nT];exact h8)
theorem Vw {cell:Int}{n:Nat}(hn:n<=26):(iQ cell n).Nodup:=by
 unfold iQ
 rw [Nd,ace]
 obtain ⟨h1,h8,_⟩:=CF cell
 refine List.Pairwise.imp_of_mem ?_ (List.nodup_range (n:=n))
 intro a b ha hb ik h
 have ha:=NO.mp ha
 have hb:=NO.mp hb
 have a0:=BN (fD cell (hG cell) / 26) (show (hG cell:Int) ≠ 0 by omega)
 have a1:=AL (fD cell (hG cell) / 26) (show (0:Int)<hG cell by omega)
 have:=Vv (b:=jV cell) (a:=wk cell) a0 (by rw [nT];exact a1) (by omega) (by omega) (by omega) (by omega) h
 exact ik (by omega)
abbrev nNs:List Str:=["_law_cell", "_law_many", "_law_number", "_law_base", "_law_k", "_law_at"]
abbrev rO:Stmt:=top 41
theorem rG:cH nNs ["_law_cell", "_law_many"] (aD rO):=eA
def MX (dd:List Dv)(t:Tr):Prop:=∃ (cell:Int) (n:Nat),n<=16/\dd=[di cell,di n]/\t=aP (iQ cell n)
theorem Sz {f f1:Addr}{fd cW:FuncData}{k:Nat}(F:cE K "_law_names" "_law_names" rO f fd)(T:Txt mg)(Tf:Kn P w K mg base aG (k+1) "_law_name" f1 cW ["_law_base", "_law_at", "_law_k"] (spT K NN)):bc P w K mg base aG (k+2) f fd ["_law_cell", "_law_many"] (spT K MX):=by
 refine fQ F.d rG (fun dd t h=>by obtain ⟨_,_,_,rfl,_⟩:=h;rfl) fun dd t h=>?_
 obtain ⟨cell,n,n6,rfl,rfl⟩:=h
 refine ⟨_,.inl rfl,?_⟩
 have big : 1000<sizeLine:=by decide
 obtain ⟨b1,b8,be⟩:=CF cell
 refine aE (bS 2 (cF.to (t':=ti (fD cell 0)) (Ev.s (iz (bU (ae 0 rfl) af (by decide)) af)) rfl) (fun _=>rG.nd)) ?_
 refine aE (bS 3 (Ev.s (b0 ao (Cs _))) (fun _=>rG.nd)) ?_
 refine aE (kl (its:=nh 0 (hG cell)) (aX.s (aX.to (mD T.jN (iz af (bU (ae 2 rfl) af (by decide))) (by rw [be];omega)) (by rw [be,NJ]))) (aZ 4 (fun _=>rG.nd)) (fun j=>[some (ti cell),some (ti n),some (ti (fD cell j)),some (cU ((jV cell).take j)),none,none]) rfl (fun _=>rfl) (fun j d hd=>?_)) ?_
 ·obtain ⟨hj,rfl⟩:=pW hd
  have hb:(jV cell)[j]?=some (fD cell (j+1) % 26):=by unfold jV;rw [i4,IS hj];rfl
  have r:=Mh cell j
  have ln:((jV cell).take j).length<=8:=by rw [DO,nT];omega
  rw [nQ hb]
  generalize (jV cell).take j=L at ln
  refine ⟨_,[some (ti cell),some (ti n),some (ti (fD cell (j+1))),some (cU (L++[fD cell (j+1) % 26])),some (ti (0+(j:Int))),none],rfl,aE (bS 2 (cF.to (t':=ti (fD cell (j+1))) (Ev.s (bU (vg (ae 2 rfl) af ⟨fg (by omega) (by omega),fg (by decide) (by decide)⟩) af (by decide))) rfl) (fun _=>rG.nd)) (aS (Rn.to (Cq 3 rfl (Ev.s (bU (ae 2 rfl) af (by decide))) (by rw [aa];omega)) ?_)),[4],rfl⟩
  show [_,_,_,some (Tr.ow _),_,_]=[_,_,_,some (Tr.ow _),_,_]
  rw [Cf];rfl
 have rl:(nh 0 (hG cell)).length=hG cell:=by rw [aa,BY]
 rw [rl,Lm (by rw [nT];exact ee _)]
 refine By (d:=dis (jV cell)) 3 rfl (pQ _) ?_
 have r:=Mh cell (hG cell)
 refine aE (bS 5 (cF.to (t':=ti (wk cell)) (Ev.s (bU (gF (ae 2 rfl) af ⟨by decide,fg (by decide) (by decide)⟩) (bK T.aR (ae 3 rfl) (.inl rfl)) (by rw [aa,nT];omega))) (by rw [aa,nT];rfl)) (fun _=>rG.nd)) ?_
 refine aS (de (Ev.s (Ev.to (dh (own:=["_law_k"]) (fr:=[5,3]) (List.range n) (fun j=>di (0+((j:Nat):Int))) (fun j=>tx (qw (jV cell) (wk cell) (0+(j:Int)))) (fun i=>bQ) (aX.to (mD T.jN (ae 1 rfl) ⟨by omega,by omega⟩) (by rw [NJ])) (aZ 0 (fun _=>by show List.Nodup (["_law_k", "_law_at", "_law_base"]:List Str);decide)) (by decide) (by rw [BY];omega) (fun j hj=>⟨_,rfl,by
   have hj:=NO.mp hj
   exact bZ Tf (ee _) (ah (ae 2 rfl) (ah (ae 1 rfl) (ah (ae 0 rfl) ao))) ⟨jV cell,wk cell,_,by rw [nT];exact b8,by omega,by omega,rfl,rfl⟩⟩) (fun dd=>by cases dd<;>rfl)) ?_)))
 show Tr.ow _=Tr.ow (List.map tx (List.map _ _))
 rw [qr];rfl
end
section
variable {P:Program}{w:World}{K:Frag}{mg:Str->Option Value}{base:Heap}
structure Gd (N:Str) (i:Nat) (x:Lq) (ci:LI):Prop where
 cs:x.cs=ci.map aO
 cn:∀ c ∈ ci,0<=c/\c<1000000000
 tl:x.ts.length=ci.length
 al:x.as.length=x.os.length
 t:x.ts.length<=6+7*i
 a:x.as.length<=6+7*i
 o:∀ o ∈ x.os,o.length<=6+2*i
 tn:∀ t ∈ x.ts,Nm t
 an:∀ a ∈ x.as,Nm a
 on:∀ o ∈ x.os,∀ w ∈ o,Nm w
 nt:N ∉ x.ts
structure Ms (N:Str) (ms:List Str):Prop where
 l:ms.length=8
 nm:∀ w ∈ ms,Nm w
 h:ms.getD 0 "" = N
 nd:N ∉ ms.drop 1
theorem Gd.up {N:Str}{i:Nat}{x:Lq}{ci:LI}(h:Gd N i x ci):Gd N (i+1) x ci :=
 ⟨h.cs,h.cn,h.tl,h.al,by have:=h.t;omega,by have:=h.a;omega,fun o ho=>by have:=h.o o ho;omega,h.tn,h.an,h.on,h.nt⟩
theorem Gd.cw {N:Str}{i:Nat}{x:Lq}{ci:LI}(h:Gd N i x ci)(hi:i<=2):Cw x.ts ci x.as x.os:=by
 have:=h.t
 have:=h.a
 exact ⟨h.tl,h.al,by omega,by omega,fun o ho=>by have:=h.o o ho;omega,h.tn,h.an,h.on,h.cn⟩
def Hw (N:Str)(x:Lq):Prop:=(∃ o ∈ x.os,N ∈ o)\/¬ x.ts.Nodup\/¬ x.as.Nodup\/6<x.ts.length\/6<x.as.length\/x.as=[]\/(∃ n:Int,9<n/\n<1000000000/\aO n ∈ x.cs)\/∃ o ∈ x.os,¬ o.Nodup
theorem XM (fa ce:Int)(ms:List Str)(n:Nat)(x:Lq):qL fa ce ms n x=if fa=1 then g1 fa ce n ms x else if fa=2 then g2 fa ce n x else if fa=3 then g3 fa ce ms x else if fa=4 then g4 fa x else if fa=5 then g5 fa ce x else if fa=6 then g6 fa ce n x else x:=by
 have e1:fa ≠ 1->∀ y,g1 fa ce n ms y=y:=fun h y=>by unfold g1;rw [AM h]
 have e2:fa ≠ 2->∀ y,g2 fa ce n y=y:=fun h y=>by unfold g2;rw [AM h]
 have e3:fa ≠ 3->∀ y,g3 fa ce ms y=y:=fun h y=>by unfold g3;rw [AM h]
 have e4:fa ≠ 4->∀ y,g4 fa y=y:=fun h y=>by unfold g4;rw [AM h]
 have e5:fa ≠ 5->∀ y,g5 fa ce y=y:=fun h y=>by unfold g5;rw [AM fun z=>h z.1]
 have e6:fa ≠ 6->∀ y,g6 fa ce n y=y:=fun h y=>by unfold g6;rw [AM fun z=>h z.1]
 unfold qL
 by_cases h1:fa=1
 ·rw [Cn h1,e6 (by omega),e5 (by omega),e4 (by omega),e3 (by omega),e2 (by omega)]
 rw [AM h1,e1 h1]
 by_cases h2:fa=2
 ·rw [Cn h2,e6 (by omega),e5 (by omega),e4 (by omega),e3 (by omega)]
 rw [AM h2,e2 h2]
 by_cases h3:fa=3
 ·rw [Cn h3,e6 (by omega),e5 (by omega),e4 (by omega)]
 rw [AM h3,e3 h3]
 by_cases h4:fa=4
 ·rw [Cn h4,e6 (by omega),e5 (by omega)]
 rw [AM h4,e4 h4]
 by_cases h5:fa=5
 ·rw [Cn h5,e6 (by omega)]
 rw [AM h5,e5 h5]
 by_cases h6:fa=6
 ·rw [Cn h6]
 rw [AM h6,e6 h6]
theorem getD_mem {α:Type}{l:List α}{d : α}{n:Nat}(h:n<l.length):l.getD n d ∈ l:=by
 rw [br,ar h]
 exact TM h
theorem Mi {o:List Str}{i:Nat}{y w:Str}:w ∈ qK o i y ↔ w=y\/w ∈ o:=by
 unfold qK
 rw [ij,gr]
 constructor
 ·rintro (h | h | h)
  ·exact .inr (abB h)
  ·exact .inl h
  ·exact .inr (abA h)
 ·rintro (h | h)
  ·exact .inr (.inl h)
  ·rw [<- List.take_append_drop i o,ij] at h
   rcases h with h | h
   ·exact .inl h
   ·exact .inr (.inr h)
theorem Ws (o:List Str)(i:Nat)(y:Str):(qK o i y).length=o.length+1:=by
 unfold qK
 rw [ir,mf,DO,EO];omega
theorem JM {l:List Str}{w:Str}(h:w ∈ l):¬ (l++[w]).Nodup:=fun z=>(ue.mp z).2.2 w h w (.head _) rfl
theorem Vx {N:Str}{ms:List Str}(M:Ms N ms){i:Nat}{x:Lq}{ci:LI}(h:Gd N i x ci)(fa ce:Int){n:Nat}(hn:n<x.os.length):(∃ cj,Gd N (i+1) (qL fa ce ms n x) cj)/\(qL fa ce ms n x=x\/Hw N (qL fa ce ms n x)):=by
 have ht:=h.t
 have ha:=h.a
 have al:=h.al
 have tl:=h.tl
 have ml:=M.l
 have row:(x.os.getD n []).length<=6+2*i:=kg h.o hn
 have OT:∀ w ∈ x.os.getD n [],Nm w:=kg h.on hn
 rw [XM]
 split
 ·rename_i e
  unfold g1
  rw [Cn e,M.h]
  have N1:Nm N:=by
   rw [<- M.h]
   exact M.nm _ (getD_mem (by omega))
  refine ⟨⟨ci,h.cs,h.cn,h.tl,by show x.as.length=(x.os.set _ _).length;rw [EN];exact al,by show x.ts.length<=_;omega,by show x.as.length<=_;omega,fun o ho=>?_,h.tn,h.an,fun o ho w hw=>?_,h.nt⟩,.inr (.inl ⟨_,acV hn _,Mi.mpr (.inl rfl)⟩)⟩
  ·rcases JJ ho with z | z
   ·have:=h.o o z;omega
   ·rw [z,Ws];omega
  ·rcases JJ ho with z | z
   ·exact h.on o z w hw
   ·rw [z] at hw
    rcases Mi.mp hw with rfl | q
    ·exact N1
    ·exact OT w q
 split
 ·rename_i e
  unfold g2
  rw [Cn e]
  by_cases q:x.ts ≠ []/\ce % 2=0
  ·rw [Cn q]
   have hp : 0<x.ts.length:=LF.mpr q.1
   obtain ⟨i0,i1⟩:=mod_lt (ce / 2) (m:=(x.ts.length:Int)) (by omega)
   have mem:x.ts.getD (ce / 2 % (x.ts.length:Int)).toNat "" ∈ x.ts:=getD_mem (by omega)
   generalize x.ts.getD (ce / 2 % (x.ts.length:Int)).toNat "" = w at mem
   refine ⟨⟨ci++[2],?_,fun c hc=>?_,?_,al,?_,by show x.as.length<=_;omega,fun o ho=>by have:=h.o o ho;omega,fun t ht=>?_,h.an,h.on,fun z=>?_⟩,.inr (.inr (.inl (JM mem)))⟩
   ·show x.cs++_=_
    rw [h.cs,Cf];rfl
   ·rcases ij.mp hc with z | z
    ·exact h.cn c z
    ·rw [mT.mp z];decide
   ·show (x.ts++[w]).length=(ci++[2]).length
    rw [ir,ir,tl];rfl
   ·show (x.ts++[w]).length<=_
    rw [ir];show x.ts.length+1<=_;omega
   ·rcases ij.mp ht with z | z
    ·exact h.tn t z
    ·rw [mT.mp z];exact h.tn w mem
   ·rcases ij.mp z with z | z
    ·exact h.nt z
    ·rw [mT.mp z] at h;exact h.nt mem
  ·rw [AM q]
   have mem:x.as.getD n "" ∈ x.as:=getD_mem (by omega)
   generalize x.as.getD n "" = w at mem
   refine ⟨⟨ci,h.cs,h.cn,h.tl,?_,by show x.ts.length<=_;omega,?_,fun o ho=>?_,h.tn,fun a ha=>?_,fun o ho w hw=>?_,h.nt⟩,.inr (.inr (.inr (.inl (JM mem))))⟩
   ·show (x.as++[w]).length=(x.os++[[]]).length
    rw [ir,ir,al];rfl
   ·show (x.as++[w]).length<=_
    rw [ir];show x.as.length+1<=_;omega
   ·rcases ij.mp ho with z | z
    ·have:=h.o o z;omega
    ·rw [mT.mp z];exact Cs _
   ·rcases ij.mp ha with z | z
    ·exact h.an a z
    ·rw [mT.mp z];exact h.an w mem
   ·rcases ij.mp ho with z | z
    ·exact h.on o z w hw
    ·rw [mT.mp z] at hw;cases hw
 split
 ·rename_i e
  unfold g3
  rw [Cn e]
  have dl:(ms.drop 1).length=7:=by rw [EO];omega
  have dm:∀ w ∈ ms.drop 1,Nm w:=fun w hw=>M.nm w (abA hw)
  have Q4:=M.nd
  generalize ms.drop 1=m7 at dl dm Q4
  split
  ·refine ⟨⟨ci++m7.map fun _=>1,?_,fun c hc=>?_,?_,al,?_,by show x.as.length<=_;omega,fun o ho=>by have:=h.o o ho;omega,fun t ht=>?_,h.an,h.on,fun z=>?_⟩,.inr (.inr (.inr (.inr (.inl ?_))))⟩
   ·show x.cs++_=_
    rw [h.cs,Cf,qr];rfl
   ·rcases ij.mp hc with z | z
    ·exact h.cn c z
    ·obtain ⟨_,_,rfl⟩:=zd.mp z
     decide
   ·show (x.ts++m7).length=_
    rw [ir,ir,aa,tl]
   ·show (x.ts++m7).length<=_
    rw [ir];omega
   ·rcases ij.mp ht with z | z
    ·exact h.tn t z
    ·exact dm t z
   ·rcases ij.mp z with z | z
    ·exact h.nt z
    ·exact Q4 z
   ·show 6<(x.ts++m7).length
    rw [ir];omega
  ·refine ⟨⟨ci,h.cs,h.cn,h.tl,?_,by show x.ts.length<=_;omega,?_,fun o ho=>?_,h.tn,fun a ha=>?_,fun o ho w hw=>?_,h.nt⟩,.inr (.inr (.inr (.inr (.inr (.inl ?_)))))⟩
   ·show (x.as++m7).length=(x.os++m7.map fun _=>[]).length
    rw [ir,ir,aa,al]
   ·show (x.as++m7).length<=_
    rw [ir];omega
   ·rcases ij.mp ho with z | z
    ·have:=h.o o z;omega
    ·obtain ⟨_,_,rfl⟩:=zd.mp z
     exact Cs _
   ·rcases ij.mp ha with z | z
    ·exact h.an a z
    ·exact dm a z
   ·rcases ij.mp ho with z | z
    ·exact h.on o z w hw
    ·obtain ⟨_,_,rfl⟩:=zd.mp z
     cases hw
   ·show 6<(x.as++m7).length
    rw [ir];omega
 split
 ·rename_i e
  unfold g4
  rw [Cn e]
  exact ⟨⟨ci,h.cs,h.cn,h.tl,rfl,by show x.ts.length<=_;omega,Cs _,(fun o ho=>nomatch ho),h.tn,(fun a ha=>nomatch ha),(fun o ho=>nomatch ho),h.nt⟩,.inr (.inr (.inr (.inr (.inr (.inr (.inl rfl))))))⟩
 split
 ·rename_i e
  unfold g5
  by_cases q:x.cs ≠ []
  ·rw [Cn ⟨e,q⟩]
   have hp : 0<x.cs.length:=LF.mpr q
   obtain ⟨i0,i1⟩:=mod_lt ce (m:=(x.cs.length:Int)) (by omega)
   obtain ⟨j0,j1⟩:=mod_lt (ce / 7) (m:=10 ^ 9-10) (by decide)
   have e9:(10:Int) ^ 9-10=999999990:=by decide
   rw [e9] at j0 j1 ⊢
   generalize ce / 7 % 999999990=y at j0 j1
   have hk:(ce % (x.cs.length:Int)).toNat<x.cs.length:=by omega
   generalize (ce % (x.cs.length:Int)).toNat=kk at hk
   refine ⟨⟨ci.set kk (10+y),?_,fun c hc=>?_,?_,al,by show x.ts.length<=_;omega,by show x.as.length<=_;omega,fun o ho=>by have:=h.o o ho;omega,h.tn,h.an,h.on,h.nt⟩,.inr (.inr (.inr (.inr (.inr (.inr (.inr (.inl ⟨10+y,by omega,by omega,acV hk _⟩)))))))⟩
   ·show x.cs.set _ _=_
    rw [h.cs,abO]
   ·rcases JJ hc with z | z
    ·exact h.cn c z
    ·omega
   ·show x.ts.length=_
    rw [EN];exact tl
  ·rw [AM fun z=>q z.2]
   exact ⟨⟨ci,h.up⟩,.inl rfl⟩
 split
 ·rename_i e
  unfold g6
  by_cases q:x.ts ≠ []
  ·rw [Cn ⟨e,q⟩]
   have hp : 0<x.ts.length:=LF.mpr q
   obtain ⟨i0,i1⟩:=mod_lt (ce / 7) (m:=(x.ts.length:Int)) (by omega)
   have mem:x.ts.getD (ce / 7 % (x.ts.length:Int)).toNat "" ∈ x.ts:=getD_mem (by omega)
   generalize x.ts.getD (ce / 7 % (x.ts.length:Int)).toNat "" = w at mem
   refine ⟨⟨ci,h.cs,h.cn,h.tl,by show x.as.length=(x.os.set _ _).length;rw [EN];exact al,by show x.ts.length<=_;omega,by show x.as.length<=_;omega,fun o ho=>?_,h.tn,h.an,fun o ho v hv=>?_,h.nt⟩,.inr (.inr (.inr (.inr (.inr (.inr (.inr (.inr ⟨_,acV hn _,fun z=>(BB.mp z).1 (ff _ (.head _))⟩)))))))⟩
   ·rcases JJ ho with z | z
    ·have:=h.o o z;omega
    ·rw [z,mf,ir];show _+1+1<=_;omega
   ·rcases JJ ho with z | z
    ·exact h.on o z v hv
    ·rw [z] at hv
     rcases gr.mp hv with rfl | hv
     ·exact h.tn _ mem
     ·rcases ij.mp hv with u | u
      ·exact OT v u
      ·rw [mT.mp u];exact h.tn _ mem
  ·rw [AM fun z=>q z.2]
   exact ⟨⟨ci,h.up⟩,.inl rfl⟩
 ·exact ⟨⟨ci,h.up⟩,.inl rfl⟩
theorem Mj {a b:Int}(h0 : 0<=a)(h1:a<1000000000)(h2 : 0<=b)(h3:b<1000000000)(h:aO a=aO b):a=b:=by
 have e1:=uI h0 h1
 rw [h,uI h2 h3] at e1
 exact (AE e1).symm
theorem K0:∀ {as bs:LI},(∀ c ∈ as,0<=c/\c<1000000000)->(∀ c ∈ bs,0<=c/\c<1000000000)->as.map aO=bs.map aO->as=bs
 |[],[],_,_,_=>rfl
 |[],_::_,_,_,h=>by cases h
 |_::_,[],_,_,h=>by cases h
 |a::as,b::bs,h1,h2,h=>by
  obtain ⟨e1,e2⟩:=MW h
  rw [Mj (h1 a (.head _)).1 (h1 a (.head _)).2 (h2 b (.head _)).1 (h2 b (.head _)).2 e1,K0 (fun c hc=>h1 c (.tail _ hc)) (fun c hc=>h2 c (.tail _ hc)) e2]
theorem XN {N:Str}{x:Lq}{i:Nat}{ci:LI}(h:Gd N i x ci)(hi:i<=2)(s:Hw N x):eJ x.ts ci x.as x.os ≠ .made:=by
 rw [MR (h.cw hi)]
 unfold tH
 split
 ·exact fun z=>nomatch z
 rename_i eC
 rw [YA] at eC
 have mem:=vk eC
 split
 ·exact fun z=>nomatch z
 rename_i hd
 rw [acP,acp,wV,wV] at hd
 split
 ·exact fun z=>nomatch z
 rename_i hg
 rw [acP,acp,Zs,Zs] at hg
 split
 ·exact fun z=>nomatch z
 rename_i ik
 split
 ·exact fun z=>nomatch z
 rename_i Q5
 rw [acP,RI] at Q5
 cases hf:x.os.findIdx? gQ with
 |some m=>exact fun z=>nomatch z
 |none =>
  exfalso
  have hf:=NH.mp hf
  rcases s with ⟨o,ho,hN⟩ | s | s | s | s | s | ⟨n,n9,n0,hm⟩ | ⟨o,ho,hN⟩
  ·exact h.nt (mem o ho N hN)
  ·exact s hd.1
  ·exact s hd.2
  ·exact hg.1 s
  ·exact hg.2 s
  ·exact ik s
  ·rw [h.cs] at hm
   obtain ⟨c,hc,e⟩:=zd.mp hm
   have:=Mj (h.cn c hc).1 (h.cn c hc).2 (by omega) n0 e
   have:=Q5 c hc
   simp only [Sm] at this
   omega
  ·exact hN (wV.mp (hf o ho))
theorem Wt {ts:List Str}(nd:ts.Nodup){k:Int}(h0 : 0<=k)(h1:k<ts.length):iK ts (nameAt ts k)=k:=by
 obtain ⟨h2,h3⟩:=BU h0 h1
 have h4:=xF h3
 obtain ⟨q1,q2⟩:=gz.mp h2
 obtain ⟨q3,q4⟩:=gz.mp h4
 have:=(aaa nd).mp (q4.trans q2.symm)
 show ((kd ts (nameAt ts k):Nat):Int)=k
 omega
end
section
variable {P:Program}{w:World}{K:Frag}{mg:Str->Option Value}{base:Heap}
theorem La {K:Frag}{G H:Hp}:∀ {os:List (List Str)} {vs:List V} {fq:List Addr},aM K G H (os.map aP) vs fq->∃ bs:List Addr,vs=bs.map V.ref/\fq=bs/\bs.length=os.length/\∀ i b,bs[i]?=some b->H b=some (.lst ((os.getD i []).map V.str))
 |[],_,_,⟨h1,h2⟩=>⟨[],h1,h2,rfl,fun i b h=>by cases h⟩
 |o::os,_,_,⟨v,r,f1,f2,h1,h2,h3,h4⟩=>by
  obtain ⟨bs,e1,e2,e3,e4⟩:=La (os:=os) h4
  obtain ⟨b,ws,fx,hv,hb,ol,hf⟩:=h3
  obtain ⟨w1,w2⟩:=n5 ol
  subst h1 h2 e1 hv hf w1 w2
  refine ⟨b::bs,rfl,by rw [e2];rfl,by rw [mf,mf,e3],fun i c hc=>?_⟩
  cases i with
  |zero=>cases hc;exact hb
  |succ i=>exact e4 i c hc
theorem Ek {K:Frag}{G H:Hp}:∀ {ρ:En} {σ:St},ρ.length=σ.length->(∀ t,some t ∈ ρ->∃ d,t=Tr.fz d)->bH K G ρ σ->aJ K G H ρ σ []
 |[],[],_,_,_=>⟨rfl,rfl⟩
 |[],_::_,h,_,_=>by cases h
 |_::_,[],h,_,_=>by cases h
 |none::ρ,o::σ,h,hz,r=>⟨o,σ,rfl,Ek (abN h) (fun t ht=>hz t (.tail _ ht)) fun j d hj=>r (j+1) d hj⟩
 |some t::ρ,o::σ,h,hz,r=>by
  obtain ⟨d,rfl⟩:=hz t (.head _)
  obtain ⟨v,h1,h2⟩:=r 0 d rfl
  cases h1
  exact ⟨v,σ,[],[],rfl,rfl,⟨rfl,h2⟩,Ek (abN h) (fun t ht=>hz t (.tail _ ht)) fun j d hj=>r (j+1) d hj⟩
def eG (ns:LI)(ms:List Str)(x:Lq):Nat->Lq
 |0=>x
 |i+1=>if (eG ns ms x i).os=[] then eG ns ms x i else vJ (aW ns (15+2*(0+(i:Int))) % 7) (aW ns (16+2*(0+(i:Int))) % 10 ^ 30) ms (eG ns ms x i)
theorem Em {N:Str}{ns:LI}{ms:List Str}{x:Lq}{ci:LI}(M:Ms N ms)(h:Gd N 0 x ci):∀ i,(∃ cj,Gd N i (eG ns ms x i) cj)/\(eG ns ms x i=x\/Hw N (eG ns ms x i))
 |0=>⟨⟨ci,h⟩,.inl rfl⟩
 |i+1=>by
  obtain ⟨⟨cj,g⟩,s⟩:=Em M h i
  unfold eG
  split
  ·exact ⟨⟨cj,g.up⟩,s⟩
  ·rename_i ne
   have hp : 0<(eG ns ms x i).os.length:=LF.mpr ne
   obtain ⟨i0,i1⟩:=mod_lt (aW ns (16+2*(0+(i:Int))) % 10 ^ 30) (m:=((eG ns ms x i).os.length:Int)) (by omega)
   obtain ⟨q1,q2⟩:=Vx M g (aW ns (15+2*(0+(i:Int))) % 7) (aW ns (16+2*(0+(i:Int))) % 10 ^ 30) (n:=(aW ns (16+2*(0+(i:Int))) % 10 ^ 30 % ((eG ns ms x i).os.length:Int)).toNat) (by omega)
   refine ⟨q1,?_⟩
   rcases q2 with q | q
   ·rcases s with s | s
    ·exact .inl (q.trans s)
    ·exact .inr (by unfold vJ;rw [q];exact s)
   ·exact .inr q
theorem Gd.fb {N:Str}{i:Nat}{x:Lq}{ci:LI}{ms:List Str}(h:Gd N i x ci)(hi:i<=2)(M:Ms N ms)(ne:x.os ≠ []):FB x ms:=by
 have:=h.t
 have:=h.a
 have:=h.al
 have:=h.tl
 have:=M.l
 have : 0<x.os.length:=LF.mpr ne
 exact ⟨by omega,h.al,by omega,by rw [h.cs,aa];omega,by omega,fun o ho=>by have:=h.o o ho;omega,by omega,by omega⟩
abbrev Q6:List Str:=["_law_script", "_law_table_here", "_law_names_here", "_law_things", "_law_askers", "_law_orders", "_law_case", "_law_k", "_law_due_here", "_law_lines_here", "_law_text", "_law_cell", "_law_turn", "_law_some", "_law_field", "_law_found"]
abbrev kv:Stmt:=top 48
theorem gq:cH Q6 ["_law_script"] (aD kv):=eA
abbrev dS:Stmt:=.Pass ⟨0,0,0,0⟩
abbrev dX:Expr:=.Constant .none 0 ⟨0,0,0,0⟩
abbrev kB (j:Nat):Stmt:=(bR kv).getD j dS
def OU:Expr->List Expr
 | .Tuple es _ _=>es
 |_=>[]
def Q7:Stmt->Expr
 | .Assign _ e _=>e
 |_=>dX
def Hx:Stmt->List Stmt
 | .For _ _ b _ _=>b
 |_=>[]
def iCn:Stmt->Expr
 | .If c _ _ _=>c
 |_=>dX
def Q8:Stmt->List Stmt
 | .If _ b _ _=>b
 |_=>[]
def Q9:Stmt->Expr
 | .Expr e _=>e
 |_=>dX
def Ra:Expr->List Expr
 | .Call _ as _ _=>as
 |_=>[]
abbrev Rb:Expr:=(OU (Q7 (kB 5))).getD 1 dX
abbrev Rc:Expr:=(OU (Q7 (kB 5))).getD 4 dX
abbrev Rf:Expr:=iCn ((Hx (kB 6)).getD 0 dS)
abbrev eFa:Expr:=(Ra (Q9 ((Q8 ((Hx (kB 6)).getD 0 dS)).getD 0 dS))).getD 1 dX
abbrev eCe:Expr:=(Ra (Q9 ((Q8 ((Hx (kB 6)).getD 0 dS)).getD 0 dS))).getD 2 dX
abbrev cZ (P:Program)(w:World)(K:Frag)(mg:Str->Option Value)(base:Heap)(f:Addr)(k:Nat):=tD P w K mg base Q6 "law" (aD kv) f k
theorem ps5 {f:Addr}{k:Nat}(i):PS ((cZ P w K mg base f k).cx i) (kB 5) (hU (qA (aT (bD 3) (aT (uE (cZ P w K mg base f k) Rb) (aT (bD 4) (aT (bD 5) (aT (uE (cZ P w K mg base f k) Rc) ck)))))) (dZ 6)) :=
 lD (X:=(cZ P w K mg base f k).cx i) (i:=6) gq.nd rfl (Or.inl rfl) (sJ (au (pv (X:=(cZ P w K mg base f k).cx i) (x := "_law_things") 3) (au (eI i) (au (pv (X:=(cZ P w K mg base f k).cx i) (x := "_law_askers") 4) (au (pv (X:=(cZ P w K mg base f k).cx i) (x := "_law_orders") 5) (au (eI i) aV))))))
theorem ps6 {f f1:Addr}{cW:FuncData}{k j:Nat}(T:Txt mg)(uk:Kn P w K mg base aG j "_law_faulty" f1 cW ["_law_case", "_law_fault", "_law_cell"] (vK K))(hj:j<=k)(i):PS ((cZ P w K mg base f k).cx i) (kB 6) (vz (xK (aT (tC (.int 2)) ck)) (dZ 7) (gN (uT (cZ P w K mg base f k) Rf) (fk (vo (vK K) [] E0 (aT (bD 6) (aT (uE (cZ P w K mg base f k) eFa) (aT (uE (cZ P w K mg base f k) eCe) ck))))) fP)) :=
 D3 (X:=(cZ P w K mg base f k).cx i) PassesOwn.never rfl (JO (by rfl) T.jN (au D0 aV)) (fO (X:=(cZ P w K mg base f k).cx i) (i:=7) gq.nd rfl (Or.inl rfl)) (mI (i7 (X:=(cZ P w K mg base f k).cx i) (mX i) (mI (eY (X:=(cZ P w K mg base f k).cx i) (Ey (X:=(cZ P w K mg base f k).cx i) uk (((cZ P w K mg base f k).hr i).mono hj) (by rfl) (au (pv (X:=(cZ P w K mg base f k).cx i) (x := "_law_case") 6) (au (eI i) (au (eI i) aV)))))) fh))
end
section
variable {P:Program}{w:World}{K:Frag}{mg:Str->Option Value}{base:Heap}
abbrev y8 (ns:LI)(tb:Dv)(nm ts as:List Str)(os:List (List Str)):En:=[some (.fz (dis ns)),some (.fz tb),some (.fz (ag nm)),some (aP ts),some (aP as),some (.ow (os.map aP)),none,none,none,none,none,none,none,none,none,none]
abbrev ρB (ns:LI)(tb:Dv)(nm:List Str)(x:Lq)(ms:List Str):En:=[some (.fz (dis ns)),some (.fz tb),some (.fz (ag nm)),some (.fz (ag x.ts)),some (.fz (ag x.as)),some (.fz (.lst (x.os.map ag))),some (.fz (.tup [ag x.ts,ag x.cs,ag x.as,.lst (x.os.map ag),ag ms])),none,none,none,none,none,none,none,none,none]
theorem Vy {f f1 f2:Addr}{cW fd2:FuncData}{k j j2:Nat}(T:Txt mg)(uk:Kn P w K mg base aG j "_law_faulty" f1 cW ["_law_case", "_law_fault", "_law_cell"] (vK K))(mz:Kn P w K mg base aG j2 "_law_cell_at" f2 fd2 ["_law_script", "_law_k"] (spT K x6))(hj:j<=k)(Rg:j2<=k){ns:LI}{tb:Dv}{nm:List Str}{x:Lq}{ms:List Str}{N:Str}{ci:LI}(M:Ms N ms)(hg:Gd N 0 x ci)(h1:Ev (cZ P w K mg base f k) Rb (y8 ns tb nm x.ts x.as x.os) (aP x.cs))(h4:Ev (cZ P w K mg base f k) Rc (y8 ns tb nm x.ts x.as x.os) (aP ms)){rest:List Stmt}{o:Out}(hr:cz (cZ P w K mg base f k) rest (ρB ns tb nm (eG ns ms x 2) ms) o) :
  cz (cZ P w K mg base f k) (kB 5::kB 6::rest) (y8 ns tb nm x.ts x.as x.os) o:=by
 obtain ⟨τ,px,py⟩:=hr
 refine ⟨_,fun i=>bM (ps5 i) (bM (ps6 T uk hj i) (px i)),fun D σ G0 H0 G H r kk=>?_⟩
 obtain ⟨fp,r⟩:=r
 have ln : σ.length=16:=by rw [<- r.own.len];rfl
 obtain ⟨vs,fq,fr,q1,q2,q3⟩:=r.own.pick (js:=[3,4,5]) (ts:=[aP x.ts,aP x.as,.ow (x.os.map aP)]) (by decide) rfl
 obtain ⟨v3,r3,f3,e3,rfl,rfl,o3,q2⟩:=q2
 obtain ⟨v4,r4,f4,e4,rfl,rfl,o4,q2⟩:=q2
 obtain ⟨v5,r5,f5,e5,rfl,rfl,o5,q2⟩:=q2
 obtain ⟨rfl,rfl⟩:=q2
 obtain ⟨a0,w0,u0,rfl,ha0,ol0,rfl⟩:=o3
 obtain ⟨rfl,rfl⟩:=n5 ol0
 obtain ⟨a2,w2,u2,rfl,jx,ol2,rfl⟩:=o4
 obtain ⟨rfl,rfl⟩:=n5 ol2
 obtain ⟨a3,w3,u3,rfl,ha3,ol3,rfl⟩:=o5
 obtain ⟨bs,rfl,rfl,hbl,Rh⟩:=La ol3
 obtain ⟨s3,q1⟩:=MW q1
 obtain ⟨s4,q1⟩:=MW q1
 obtain ⟨s5,_⟩:=MW q1
 have Ri:=(ue.mp (q3.nodup_iff.mp r.d)).1
 have sub:∀ a,(a=a0\/a=a2\/a=a3\/a ∈ u3)->a ∈ fp:=fun a ha=>q3.mem_iff.mpr (rf _ (by
  simp only [ij,gr,LG,abZ]
  rcases ha with h | h | h | h
  ·exact .inl h
  ·exact .inr (.inl h)
  ·exact .inr (.inr (.inl h))
  ·exact .inr (.inr (.inr h))))
 simp only [List.cons_append,List.nil_append,CS,BB,gr,not_or] at Ri
 obtain ⟨⟨kU,kW,kX⟩,⟨jB,kY⟩,mr,nM⟩:=Ri
 have rp:=r.own.lY
 have thb:∀ b ∈ u3,∃ o,H b=some o:=fun b hb=>by
  obtain ⟨i,hi⟩:=ack.mp hb
  exact ⟨_,Rh i b hi⟩
 refine ⟨.ref a0,s3,Ni (F:=cZ P w K mg base f k) h1 r.st.s rp fun v1 G1 H1 g1 ua ow1 nw1=>?_⟩
 obtain ⟨a1,w1,u1,rfl,Hy,ol1,rfl⟩:=ow1
 obtain ⟨rfl,rfl⟩:=n5 ol1
 have uc:H a1=none:=nw1.n a1 (.head _)
 refine ⟨.ref a2,s4,.ref a3,s5,Ni (F:=cZ P w K mg base f k) h4 ua.s (rp.mono ua.g) fun v4 G2 H2 g2 bO ow2 nw2=>?_⟩
 obtain ⟨a4,w4,u4,rfl,Hz,ol4,rfl⟩:=ow2
 obtain ⟨rfl,rfl⟩:=n5 ol4
 have Rj:H1 a4=none:=nw2.n a4 (.head _)
 refine ⟨by show 5<=sizeLine;decide,fun p hp=>?_⟩
 have keep:∀ b o,H b=some o->b ≠ p/\b ≠ a1/\b ≠ a4/\upd H2 p (.tup [.ref a0,.ref a1,.ref a2,.ref a3,.ref a4]) b=some o:=fun b o hb=>by
  have md:=ua.h b o hb
  have mh:=bO.h b o md
  have bp:b ≠ p:=fun z=>by rw [z,hp] at mh;cases mh
  exact ⟨bp,(fun z=>by rw [z,uc] at hb;cases hb),(fun z=>by rw [z,Rj] at md;cases md),by rw [ay bp];exact mh⟩
 have k1:=bO.h _ _ Hy
 have p1:a1 ≠ p:=fun z=>by rw [z,hp] at k1;cases k1
 have p4:a4 ≠ p:=fun z=>by rw [z,hp] at Hz;cases Hz
 have mm:a1 ≠ a4:=fun z=>by rw [z,Rj] at Hy;cases Hy
 obtain ⟨p0,kT,mj,k0⟩:=keep _ _ ha0
 obtain ⟨p2,n21,mn,k2⟩:=keep _ _ jx
 obtain ⟨p3,n31,mq,k3⟩:=keep _ _ ha3
 have kb:∀ b ∈ u3,b ≠ p/\b ≠ a1/\b ≠ a4:=fun b hb=>by
  obtain ⟨o,ho⟩:=thb b hb
  obtain ⟨z1,z2,z3,_⟩:=keep b o ho
  exact ⟨z1,z2,z3⟩
 have S:SL (upd H2 p (.tup [.ref a0,.ref a1,.ref a2,.ref a3,.ref a4])) p a0 a1 a2 a3 a4 u3 x ms:=by
  refine ⟨bT,k0,by rw [ay p1];exact k1,k2,k3,by rw [ay p4];exact Hz,hbl,fun i b hb=>(keep b _ (Rh i b hb)).2.2.2,?_⟩
  simp only [BB,gr,not_or]
  exact ⟨⟨p0.symm,p1.symm,p2.symm,p3.symm,p4.symm,fun z=>(kb p z).1 rfl⟩,⟨kT,kU,kW,mj,kX⟩,⟨n21.symm,n31.symm,mm,fun z=>(kb a1 z).2.1 rfl⟩,⟨jB,mn,kY⟩,⟨mq,mr⟩,fun z=>(kb a4 z).2.2 rfl,nM⟩
 generalize oY:upd H2 p (.tup [.ref a0,.ref a1,.ref a2,.ref a3,.ref a4])=H3 at S keep
 dsimp only [dZ,cq]
 have NP:∀ b,(H0 b ≠ none\/G b ≠ none)->b ∉ a0::a1::a2::a3::u3:=fun b hb z=>by
  have zb:b ∈ fp->False:=fun hm=>by
   rcases hb with q | q
   ·exact q (r.n b hm)
   ·exact q (r.g b hm)
  simp only [gr] at z
  rcases z with z | z | z | z | z
  ·exact zb (sub b (.inl z))
  ·subst z
   rcases hb with q | q
   ·cases h:H0 b with
    |none=>exact q h
    |some o=>rw [r.st.h b o h] at uc;cases uc
   ·cases h:G b with
    |none=>exact q h
    |some o=>rw [r.st.s b o h] at uc;cases uc
  ·exact zb (sub b (.inr (.inl z)))
  ·exact zb (sub b (.inr (.inr (.inl z))))
  ·exact zb (sub b (.inr (.inr (.inr z))))
 have gH:∀ {H':Hp} {bP:List Addr},Fy a0 a1 a2 a3 H3 H' u3 bP->ai G H':=fun {H' bP} fy b o hb=>fy.1 b o (keep b o (r.st.s b o hb)).2.2.2 (NP b (.inr (by rw [hb];simp)))
 obtain ⟨v0,Rk,Rl⟩:=rp 0 (dis ns) rfl
 obtain ⟨vt,svt,hvt⟩:=rp 1 tb rfl
 obtain ⟨vn,svn,hvn⟩:=rp 2 (ag nm) rfl
 refine VW (hi:=2) 2 (fun R h=>h) (by decide) rfl (fun i aA H'=>(aA.length=16/\∀ q,q ≠ 7->aA[q]?=(σ.set 6 (some (.ref p)))[q]?)/\∃ bP,SL H' p a0 a1 a2 a3 a4 bP (eG ns ms x i) ms/\Fy a0 a1 a2 a3 H3 H' u3 bP) ⟨⟨by rw [EN];exact ln,fun _ _=>rfl⟩,u3,S,Fy.same (ai.refl _)⟩ (fun i aA H' hi z=>?_) (fun aA H' z=>?_)
 ·obtain ⟨⟨l',e'⟩,bP,S',F'⟩:=z
  obtain ⟨⟨cj,gd⟩,_⟩:=Em (ns:=ns) M hg i
  have stp:eG ns ms x (i+1)=if (eG ns ms x i).os=[] then eG ns ms x i else vJ (aW ns (15+2*(0+(i:Int))) % 7) (aW ns (16+2*(0+(i:Int))) % 10 ^ 30) ms (eG ns ms x i):=rfl
  rw [stp]
  generalize eG ns ms x i=y at S' gd
  show gN _ _ _ _ (aA.set 7 (some (.int (0+(i:Int))))) H'
  have e2:(aA.set 7 (some (.int (0+(i:Int))))).length=16/\∀ q,q ≠ 7->(aA.set 7 (some (.int (0+(i:Int)))))[q]?=(σ.set 6 (some (.ref p)))[q]?:=⟨by rw [EN];exact l',fun q hq=>by rw [B0 (fun z=>hq z.symm)];exact e' q hq⟩
  have e7:(aA.set 7 (some (.int (0+(i:Int)))))[7]?=some (some (.int (0+(i:Int)))):=EU (by omega)
  generalize aA.set 7 (some (.int (0+(i:Int))))=bB at e2 e7
  have zf:∀ {HA:Hp},ai H' HA->bH K HA [some (.fz (dis ns)),none,none,none,none,some (.fz (.lst (y.os.map ag))),none,some (ti (0+(i:Int))),none,none,none,none,none,none,none,none] bB:=fun {HA} sm q d hd=>by
   have g0:bB[0]?=some (some v0):=by rw [e2.2 0 (by decide),B0 (by decide)];exact Rk
   have g5:bB[5]?=some (some (.ref a3)):=by rw [e2.2 5 (by decide),B0 (by decide)];exact s5
   match q,hd with
   |0,hd=>cases hd;exact ⟨v0,g0,Rl.mono ((gH F').trans sm)⟩
   |5,hd=>cases hd;exact ⟨.ref a3,g5,Hv.mono sm (show Hv K H' (.lst (y.os.map ag)) (.ref a3) from ⟨a3,_,rfl,aF.of S'.h3,uW S'.hl S'.hb⟩)⟩
   |7,hd=>cases hd;exact ⟨_,e7,rfl,rfl⟩
   |1,hd=>cases hd
   |2,hd=>cases hd
   |3,hd=>cases hd
   |4,hd=>cases hd
   |6,hd=>cases hd
   |8,hd=>cases hd
   |9,hd=>cases hd
   |10,hd=>cases hd
   |11,hd=>cases hd
   |12,hd=>cases hd
   |13,hd=>cases hd
   |14,hd=>cases hd
   |15,hd=>cases hd
   |n+16,hd=>cases hd
  have eT:Et (cZ P w K mg base f k) Rf [some (.fz (dis ns)),none,none,none,none,some (.fz (.lst (y.os.map ag))),none,some (ti (0+(i:Int))),none,none,none,none,none,none,none,none] (!decide (y.os=[])):=by
   refine Et.to (lE (ae 5 rfl) (b0 ao (Cs _)) (.inl ⟨_,_,rfl,rfl⟩) ?_) ?_
   ·refine EM (uN (n:=1) fun d hd=>?_) (by decide)
    obtain ⟨l,_,rfl⟩:=zd.mp hd
    refine uN (n:=0) fun d hd=>?_
    obtain ⟨m,_,rfl⟩:=zd.mp hd
    exact ee _
   ·show (!eQ (.lst (y.os.map ag)) (.lst []))=_
    cases y.os with
    |nil=>rfl
    |cons a l=>rw [uu (by simp)];rfl
  by_cases ne:y.os=[]
  ·rw [Cn ne]
   refine ku (F:=cZ P w K mg base f k) (Et.to eT (by rw [zw ne];rfl)) (zf (ai.refl _)) fun H4 sm=>?_
   exact ⟨e2,bP,S'.mono sm,⟨fun b o hb hn=>sm b o (F'.1 b o hb hn),F'.2⟩⟩
  ·rw [AM ne]
   refine mS (F:=cZ P w K mg base f k) (Et.to eT (by rw [uu ne];rfl)) (zf (ai.refl _)) fun H4 sm=>?_
   have g6:bB[6]?=some (some (.ref p)):=by rw [e2.2 6 (by decide)];exact EU (by omega)
   refine ⟨.ref p,g6,gp (F:=cZ P w K mg base f k) (t:=ti (aW ns (15+2*(0+(i:Int))) % 7)) (bU (bZ mz Rg (ah (ae 0 rfl) (ah (iz af (vg af (ae 7 rfl) ⟨fg (by decide) (by decide),fg (by omega) (by omega)⟩)) ao)) ⟨ns,15+2*(0+(i:Int)),by omega,rfl,rfl⟩) af (by decide)) (zf sm) fun vf G5 H5 f5' cL ow5 _=>?_⟩
   have evf:vf=.int (aW ns (15+2*(0+(i:Int))) % 7):=aB ow5.2
   subst evf
   refine gp (F:=cZ P w K mg base f k) (t:=ti (aW ns (16+2*(0+(i:Int))) % 10 ^ 30)) (bU (bZ mz Rg (ah (ae 0 rfl) (ah (iz af (vg af (ae 7 rfl) ⟨fg (by decide) (by decide),fg (by omega) (by omega)⟩)) ao)) ⟨ns,16+2*(0+(i:Int)),by omega,rfl,rfl⟩) (Ea af af ⟨by decide,by decide,by decide⟩) (by decide)) (zf (sm.trans cL.h)) fun vc G6 H6 f6' yW ow6 _=>?_
   have evc:vc=.int (aW ns (16+2*(0+(i:Int))) % 10 ^ 30):=aB ow6.2
   subst evc
   have rj:ai H' H6:=(sm.trans cL.h).trans yW.h
   have F6:Fy a0 a1 a2 a3 H3 H6 u3 bP:=⟨fun b o hb hn=>rj b o (F'.1 b o hb hn),F'.2⟩
   refine ⟨p,a0,a1,a2,a3,a4,bP,y,ms,_,_,rfl,S'.mono rj,gd.fb (by omega) M ne,fun H7 Ht S7 F7=>⟨e2,Ht,S7,Fy.trans F6 (S'.mono rj) F7⟩⟩
 ·obtain ⟨⟨l',e'⟩,bP,S',F'⟩:=z
  generalize eG ns ms x 2=y at S' kk py
  have h0n:∀ b,(b=p\/b=a0\/b=a1\/b=a2\/b=a3\/b=a4\/b ∈ bP)->H0 b=none:=fun b hb=>by
   have new:∀ c,H c=none->H0 c=none:=fun c hc=>by
    cases h:H0 c with
    |none=>rfl
    |some o=>rw [r.st.h c o h] at hc;cases hc
   have hpn:H p=none:=by
    cases h:H p with
    |none=>rfl
    |some o=>exact absurd rfl (keep p o h).1
   have h4n:H a4=none:=by
    cases h:H a4 with
    |none=>rfl
    |some o=>exact absurd rfl (keep a4 o h).2.2.1
   rcases hb with z | z | z | z | z | z | z
   ·rw [z];exact new p hpn
   ·rw [z];exact r.n _ (sub _ (.inl rfl))
   ·rw [z];exact new a1 uc
   ·rw [z];exact r.n _ (sub _ (.inr (.inl rfl)))
   ·rw [z];exact r.n _ (sub _ (.inr (.inr (.inl rfl))))
   ·rw [z];exact new a4 h4n
   ·rcases F'.2 b z with q | q
    ·exact r.n _ (sub _ (.inr (.inr (.inr q))))
    ·refine new b ?_
     cases h:H b with
     |none=>rfl
     |some o=>rw [(keep b o h).2.2.2] at q;cases q
  have h0k:∀ b o,H0 b=some o->H' b=some o:=fun b o hb=>F'.1 b o (keep b o (r.st.h b o hb)).2.2.2 (NP b (.inl (by rw [hb];simp)))
  let Gn:Hp:=fun a=>match H0 a with | none=>H' a | some _=>G a
  have HB:∀ a,H0 a=none->Gn a=H' a:=fun a ha=>by show (match H0 a with | none=>H' a | some _=>G a)=_;rw [ha]
  have HC:∀ a o,H0 a=some o->Gn a=G a:=fun a o ha=>by show (match H0 a with | none=>H' a | some _=>G a)=_;rw [ha]
  have gG:ai G Gn:=fun b o hb=>by
   cases h:H0 b with
   |none=>rw [HB b h];exact gH F' b o hb
   |some u=>rw [HC b u h];exact hb
  have SG:SL Gn p a0 a1 a2 a3 a4 bP y ms:=by
   have at':∀ b,(b=p\/b=a0\/b=a1\/b=a2\/b=a3\/b=a4\/b ∈ bP)->Gn b=H' b:=fun b hb=>HB b (h0n b hb)
   exact ⟨(at' p (.inl rfl)).trans S'.hp,(at' a0 (.inr (.inl rfl))).trans S'.h0,(at' a1 (.inr (.inr (.inl rfl)))).trans S'.h1,(at' a2 (.inr (.inr (.inr (.inl rfl))))).trans S'.h2,(at' a3 (.inr (.inr (.inr (.inr (.inl rfl)))))).trans S'.h3,(at' a4 (.inr (.inr (.inr (.inr (.inr (.inl rfl))))))).trans S'.h4,S'.hl,fun i b hb=>(at' b (.inr (.inr (.inr (.inr (.inr (.inr (ma hb)))))))).trans (S'.hb i b hb),S'.nd⟩
  have Rm:Hv K Gn (.lst (y.os.map ag)) (.ref a3):=⟨a3,_,rfl,aF.of SG.h3,uW SG.hl SG.hb⟩
  have get:∀ q v,q ≠ 7->q ≠ 6->σ[q]?=some (some v)->aA[q]?=some (some v):=fun q v h7 h6 hq=>by rw [e' q h7,B0 (fun z=>h6 z.symm)];exact hq
  refine py D aA G0 H0 Gn H' ⟨[],⟨fun b o hb=>gG b o (r.st.g b o hb),h0k,fun b o hb=>?_,fun a h h'=>?_⟩,Ek (by rw [l'];rfl) (fun t ht=>?_) (fun q d hd=>?_),(fun a ha=>nomatch ha),(fun a ha=>nomatch ha),.nil⟩ kk
  ·cases h:H0 b with
   |none=>rw [HB b h] at hb;exact hb
   |some u=>rw [HC b u h] at hb;exact gH F' b o hb
  ·cases h0:H0 a with
   |none=>rfl
   |some u =>
    rw [HC a u h0] at h'
    have:=r.st.n a h h'
    rw [h0] at this;cases this
  ·simp only [gr,Option.some.injEq,LG,abZ,reduceCtorEq] at ht
   rcases ht with h | h | h | h | h | h | h<;>exact ⟨_,h⟩
  ·match q,hd with
   |0,hd=>cases hd;exact ⟨v0,get 0 _ (by decide) (by decide) Rk,Rl.mono gG⟩
   |1,hd=>cases hd;exact ⟨vt,get 1 _ (by decide) (by decide) svt,hvt.mono gG⟩
   |2,hd=>cases hd;exact ⟨vn,get 2 _ (by decide) (by decide) svn,hvn.mono gG⟩
   |3,hd=>cases hd;exact ⟨_,get 3 _ (by decide) (by decide) s3,kj SG.h0⟩
   |4,hd=>cases hd;exact ⟨_,get 4 _ (by decide) (by decide) s4,kj SG.h2⟩
   |5,hd=>cases hd;exact ⟨_,get 5 _ (by decide) (by decide) s5,Rm⟩
   |6,hd =>
    cases hd
    refine ⟨.ref p,by rw [e' 6 (by decide)];exact EU (by omega),p,_,rfl,eM.of SG.hp,?_⟩
    exact ⟨_,_,rfl,kj SG.h0,_,_,rfl,kj SG.h1,_,_,rfl,kj SG.h2,_,_,rfl,Rm,_,_,rfl,kj SG.h4,rfl⟩
   |7,hd=>cases hd
   |8,hd=>cases hd
   |9,hd=>cases hd
   |10,hd=>cases hd
   |11,hd=>cases hd
   |12,hd=>cases hd
   |13,hd=>cases hd
   |14,hd=>cases hd
   |15,hd=>cases hd
   |n+16,hd=>cases hd
end
section
variable {P:Program}{w:World}{K:Frag}{mg:Str->Option Value}{base:Heap}
theorem Vz {α:Type}(l:List α)(m:Nat):cutD l none (some (m:Int))=l.take m:=by
 unfold cutD
 rw [HT.wY]
 show (l.drop 0).take (min m l.length-0)=_
 rw [List.drop_zero,Nat.sub_zero]
 rcases Nat.le_total m l.length with h | h
 ·rw [acU h]
 ·rw [Nat.min_eq_right h,Lm (ee _),Lm h]
abbrev sR (ts as:List Str)(c:LI)(os:LL):Dv:=.tup [ag ts,ag as,kz c os]
theorem VA (ts as:List Str)(c:LI)(os:LL):er (ou ts as c os)=sR ts as c os:=by
 show Dv.tup [er (aP ts),er (aP as),.tup [er (cU c),er (kr os)]]=_
 rw [dW,dW,pQ,wM];rfl
theorem MY (l:List Str):gW (ag l)=true:=LN (fun _=>rfl) l
theorem VB (ts as:List Str)(c:LI)(os:LL):gW (sR ts as c os)=true:=by
 show (gW (ag ts)&&(gW (ag as)&&((gW (dis c)&&(gW (.lst (os.map dis))&&true))&&true)))=true
 rw [MY,MY,DM,U6];rfl
theorem VC (ts as:List Str)(c:LI)(os:LL):gU (sR ts as c os)<=50:=by
 have h1:∀ l:List Str,gU (ag l)<=48:=fun l=>EM (uN (n:=0) fun d hd=>by
  obtain ⟨m,_,rfl⟩:=zd.mp hd
  exact ee _) (by decide)
 refine EM (LK (n:=48) fun d hd=>?_) (by decide)
 rcases gr.mp hd with rfl | hd
 ·exact h1 _
 ·rcases gr.mp hd with rfl | hd
  ·exact h1 _
  ·rw [mT.mp hd]
   refine EM (LK (n:=2) fun d hd=>?_) (by decide)
   rcases gr.mp hd with rfl | hd
   ·exact EM (xk c) (by decide)
   ·rw [mT.mp hd]
    refine uN (n:=1) fun d hd=>?_
    obtain ⟨o,_,rfl⟩:=zd.mp hd
    exact xk o
theorem cls_nil {ω:eD}(h : ω ≠ .made):eQ (dis (dG ω)) (.lst [])=false:=by
 cases ω with
 |made=>exact absurd rfl h
 |_=>rfl
abbrev HD (ns:LI)(tb:Dv)(nm ts as:List Str)(oD cD:Dv)(ω:eD)(t9:Option Tr)(d:Dv)(ce:Int):En:=[some (.fz (dis ns)),some (.fz tb),some (.fz (ag nm)),some (.fz (ag ts)),some (.fz (ag as)),some (.fz oD),some (.fz cD),none,some (.fz (.tup [dis (dG ω),.fl (ez ω)])),t9,some (.fz d),some (ti ce),none,none,none,none]
theorem VD (ω:eD):sY (ez ω) (ez ω)=true:=by cases ω<;>rfl
theorem XO (ω:eD):kitOne K (Gy (.fl (ez ω))) (.type "bool")=some false:=by
 cases ω<;>with_unfolding_all rfl
theorem MZ {f f1:Addr}{cW:FuncData}{k j:Nat}{c:cm}(T:Txt mg)(wB:Kn P w K mg base aG j "_law_told" f1 cW ["_law_text"] (spT K (yV c)))(hj:j<=k){ns:LI}{cI:LI}{oI:LL}{nm ts as:List Str}{oD cD:Dv}{ω:eD}{t9:Option Tr}{d:Dv}{ce:Int}(h:(Rd c d ω/\ω ≠ .made)\/(ω=.made/\∃ (cs:LI) (os:List (List Str)),Cw ts cs as os/\eJ ts cs as os=.made/\d=ds (bL (aK ts cs as os))/\cs=cI/\eE ts os=oI)) :
  cz (cZ P w K mg base f k) [kB 12,kB 13] (HD ns (kz cI oI) nm ts as oD cD ω t9 d ce) (.rt (L2.tb true)):=by
 refine aE (kl (its:=nh 0 2) (aX.s (mD T.jN af (by decide))) (aZ 12 (fun _=>gq.nd)) (fun _=>HD ns (kz cI oI) nm ts as oD cD ω t9 d ce) rfl (fun _=>rfl) (fun q e hd=>?_)) (aS (de (Ev.s EC)))
 obtain ⟨_,rfl⟩:=pW hd
 obtain ⟨t3,hR,hT⟩:∃ t3,yV c [d] (.tp [cU (dG ω),.fz (.fl (ez ω)),t3])/\(ω=.made->t3=ou ts as cI oI):=by
  rcases h with ⟨h1,h2⟩ | ⟨rfl,cs,os,hc,hw,rfl,rfl,rfl⟩
  ·exact ⟨tn,.inl ⟨d,ω,h1,rfl,rfl⟩,fun z=>absurd z h2⟩
  ·exact ⟨ou ts as cs (eE ts os),.inr ⟨ts,cs,as,os,hc,hw,rfl,rfl⟩,fun _=>rfl⟩
 refine ⟨_,[some (.fz (dis ns)),some (.fz (kz cI oI)),some (.fz (ag nm)),some (.fz (ag ts)),some (.fz (ag as)),some (.fz oD),some (.fz cD),none,some (.fz (.tup [dis (dG ω),.fl (ez ω)])),t9,some (.fz d),some (ti ce),some (ti (0+(q:Int))),some (cU (dG ω)),some (.fz (.fl (ez ω))),some t3],rfl,?_,[12,13,14,15],rfl⟩
 refine aE (ρ1:=[some (.fz (dis ns)),some (.fz (kz cI oI)),some (.fz (ag nm)),some (.fz (ag ts)),some (.fz (ag as)),some (.fz oD),some (.fz cD),none,some (.fz (.tup [dis (dG ω),.fl (ez ω)])),t9,some (.fz d),some (ti ce),some (ti (0+(q:Int))),some (cU (dG ω)),some (.fz (.fl (ez ω))),some t3]) (V9 (ta:=cU (dG ω)) (tb:=.fz (.fl (ez ω))) (tc:=t3) 13 14 15 (by decide) (by decide) (by decide) (Ev.s (bZ wB hj (ah (ae 10 rfl) ao) hR)) (fun i=>xx rfl (iu (fO (i:=13) gq.nd rfl (by first | exact Or.inl rfl | exact Or.inr rfl)) (iu (fO (i:=14) gq.nd rfl (by first | exact Or.inl rfl | exact Or.inr rfl)) (iu (fO (i:=15) gq.nd rfl (by first | exact Or.inl rfl | exact Or.inr rfl)) wX)))) rfl rfl rfl) ?_
 have HE:er (.fz (er (cU (dG ω))))=dis (dG ω):=pQ _
 refine aE (cA (cG.to (q:=false) (Et.pk (Ew.et (iA (p:=false) (Et.to (lE (ae 13 rfl) (p8 (d:=dis (dG ω)) (ae 8 rfl) af rfl rfl) (.inl ⟨_,_,HE,rfl⟩) (by rw [HE];exact EM (xk _) (by decide))) (by rw [HE,show er (.fz (dis (dG ω)))=dis (dG ω) from rfl,De (DM _)];rfl)) fun _=>iA (p:=false) (Et.to (sM (ae 14 rfl) (p8 (d:=.fl (ez ω)) (ae 8 rfl) af rfl rfl) (VD ω)) (by rw [zw rfl];rfl)) fun _=>iP (dY (vh (bo:=false) T.fe T.Xu VV (ae 14 rfl) (XO ω)))))) rfl) rfl) ?_
 refine aS (cA (cG.to (q:=false) (Et.pk (Ew.et (lF (p:=eQ (dis (dG ω)) (.lst [])) (q:=false) (Mw (p8 (d:=dis (dG ω)) (ae 8 rfl) af rfl rfl) (b0 ao (Cs _)) (.inl ⟨_,_,rfl,rfl⟩) (EM (xk _) (by decide))) fun hm=>?_))) (by rw [aab])) rfl)
 ·have hm : ω=.made:=Classical.byContradiction fun z=>by
   rw [cls_nil z] at hm
   cases hm
  rw [hT hm]
  have HF:er (.fz (er (ou ts as cI oI)))=sR ts as cI oI:=VA ts as cI oI
  refine mJ (Et.to (lE (ae 15 rfl) (jQ (ah (ae 3 rfl) (ah (ae 4 rfl) (ah (ae 1 rfl) ao))) (by show 3<=sizeLine;decide)) (.inr ⟨_,_,HF,rfl⟩) (by rw [HF];exact VC _ _ _ _)) ?_)
  rw [HF]
  show (!eQ (sR ts as cI oI) (sR ts as cI oI))=false
  rw [De (VB _ _ _ _)];rfl
end
section
variable {P:Program}{w:World}{K:Frag}{mg:Str->Option Value}{base:Heap}
theorem Lb:∀ L:List (List Str),oH (L.map aP)
 |[] => True.intro
 |l::L=>⟨Ei l,Lb L⟩
theorem NQ {l:List Str}(nd:l.Nodup){i j:Nat}{w:Str}(h1:l[i]?=some w)(h2:l[j]?=some w):i=j:=by
 obtain ⟨a,b⟩:=gz.mp h1
 obtain ⟨c,d⟩:=gz.mp h2
 exact (aaa nd).mp (b.trans d.symm)
theorem Yp {nm:List Str}(l:nm.length=16)(nd:nm.Nodup)(h:∀ w ∈ nm,Nm w):Ms (nm.getD 6 "") ((nm.drop 6).take 8)/\∀ m,m<=6->nm.getD 6 "" ∉ nm.take m:=by
 have e6:nm[6]?=some (nm.getD 6 ""):=by rw [br,ar (show 6<nm.length by omega)];rfl
 refine ⟨⟨by rw [DO,EO];omega,fun w hw=>h w (abA (abB hw)),?_,fun z=>?_⟩,fun m hm z=>?_⟩
 ·rw [br,WJ (by decide),acF,br]
 ·obtain ⟨q,hq⟩:=ack.mp z
  rw [acF] at hq
  have HG:=(gz.mp hq).1
  rw [DO] at HG
  rw [WJ (by omega),acF] at hq
  have:=NQ nd hq e6
  omega
 ·obtain ⟨q,hq⟩:=ack.mp z
  have HG:=(gz.mp hq).1
  rw [DO] at HG
  rw [WJ (by omega)] at hq
  have:=NQ nd hq e6
  omega
theorem Wu {ts:List Str}(nd:ts.Nodup){oI:LL}(h:∀ o ∈ oI,∀ x ∈ o,0<=x/\x<ts.length):eE ts (oI.map fun o=>o.map (nameAt ts))=oI:=by
 unfold eE
 rw [qr]
 conv=>rhs;rw [<- acX oI]
 refine ON fun o ho=>?_
 show (o.map (nameAt ts)).map (iK ts)=o
 rw [qr]
 conv=>rhs;rw [<- acX o]
 exact ON fun x hx=>Wt nd (h o ho x hx).1 (h o ho x hx).2
theorem Wv {ts:List Str}{x:Int}(h0 : 0<=x)(h1:x<ts.length):cC (ts.map ds) x=some (ds (nameAt ts x)):=by
 have:cC (ts.map ds) ((x.toNat:Nat):Int)=some (ds (nameAt ts x)):=gx (by rw [i4,(BU h0 h1).1];rfl)
 rwa [show ((x.toNat:Nat):Int)=x by omega] at this
theorem XQ (ω:eD):er (FG ω)=.tup [dis (dG ω),.fl (ez ω)]:=by
 show Dv.tup [er (cU (dG ω)),.fl (ez ω)]=_
 rw [pQ]
theorem XR {f f1 f2 f3 f4 f5 f6 f7 f8:Addr}{fd cW fd2 t5 t7 fd5 fd6 fd7 fd8:FuncData}{k:Nat}{c:cm}(F:cE K "law" "law" kv f fd)(T:Txt mg)(mz:Kn P w K mg base aG (k+6) "_law_cell_at" f1 cW ["_law_script", "_law_k"] (spT K x6))(S1:Kn P w K mg base aG (k+7) "_law_table" f2 fd2 ["_law_script", "_law_start", "_law_things", "_law_askers"] (spT K MV))(Jw:Kn P w K mg base aG (k+7) "_law_names" f3 t5 ["_law_cell", "_law_many"] (spT K MX))(uk:Kn P w K mg base aG (k+7) "_law_faulty" f4 t7 ["_law_case", "_law_fault", "_law_cell"] (vK K))(TR:Kn P w K mg base aG (k+7) "_law_due" f5 fd5 ["_law_case"] (spT K OJ))(S2:Kn P w K mg base aG (k+7) "_law_lines" f6 fd6 ["_law_case"] (spT K OL))(JN:Kn P w K mg base aG (k+7) "_law_odd" f7 fd7 ["_law_lines_here", "_law_way", "_law_cell"] (vI K OM))(wB:Kn P w K mg base aG (k+7) "_law_told" f8 fd8 ["_law_text"] (spT K (yV c))):bc P w K mg base aG (k+8) f fd ["_law_script"] (spT K Oj):=by
 refine fQ F.d gq (fun dd t h=>by obtain ⟨_,_,rfl,_⟩:=h;rfl) fun dd t h=>?_
 obtain ⟨ns,hb,rfl,rfl⟩:=h
 refine ⟨_,.inl rfl,?_⟩
 have big : 300000<sizeLine:=by decide
 have tab:xT (mL 6 ns 0) (gE 6 ns 0 6):=XG (by decide) (by decide) (by decide)
 refine aE (bS 1 (Ev.s (bZ S1 (ee _) (ah (ae 0 rfl) (ah af (ah af (ah af ao)))) ⟨6,ns,0,6,by decide,by decide,by decide,by decide,rfl,rfl⟩)) (fun _=>gq.nd)) ?_
 generalize mL 6 ns 0=cI at tab
 generalize gE 6 ns 0 6=oI at tab
 have c6:=tab.c6
 have o6:=tab.o6
 have o1:=tab.o1
 refine aE (bS 2 (Ev.s (Ev.as (d:=ag (iQ (aW ns 13) 16)) (bZ Jw (ee _) (ah (bZ mz (Mn _) (ah (ae 0 rfl) (ah af ao)) ⟨ns,13,by decide,rfl,rfl⟩) (ah af ao)) ⟨aW ns 13,16,by decide,rfl,rfl⟩) (dW _))) (fun _=>gq.nd)) ?_
 have nl:(iQ (aW ns 13) 16).length=16:=Ki _ _
 have HH:(iQ (aW ns 13) 16).Nodup:=Vw (by decide)
 have HI:∀ w ∈ iQ (aW ns 13) 16,Nm w:=KZ
 generalize iQ (aW ns 13) 16=nm at nl HH HI
 obtain ⟨M,hN⟩:=Yp nl HH HI
 have hN:=hN cI.length c6
 refine aE (bS 3 (cF.to (t':=aP (nm.take cI.length)) (Ev.s (fM (ae 2 rfl) rfl gi (eS (bK T.aR (p8 (d:=dis cI) (ae 1 rfl) af rfl rfl) (.inl rfl))))) ?_) (fun _=>gq.nd)) ?_
 ·rw [aa,Vz,<- acK,qr];rfl
 have HJ:(nm.take cI.length).length=cI.length:=by rw [DO];omega
 have Ro:(nm.take cI.length).Nodup:=HH.sublist (List.take_sublist _ _)
 have HK:∀ w ∈ nm.take cI.length,Nm w:=fun w hw=>HI w (abB hw)
 generalize nm.take cI.length=ts at HJ Ro HK hN
 refine aE (bS 4 (Ev.s (bZ Jw (ee _) (ah (bZ mz (Mn _) (ah (ae 0 rfl) (ah af ao)) ⟨ns,14,by decide,rfl,rfl⟩) (ah (bK T.aR (p8 (d:=.lst (oI.map dis)) (ae 1 rfl) af rfl rfl) (.inl rfl)) ao)) ⟨aW ns 14,oI.length,by omega,by rw [aa];rfl,rfl⟩)) (fun _=>gq.nd)) ?_
 have Rp:(iQ (aW ns 14) oI.length).length=oI.length:=Ki _ _
 have Rq:∀ w ∈ iQ (aW ns 14) oI.length,Nm w:=KZ
 generalize iQ (aW ns 14) oI.length=as at Rp Rq
 have ic:∀ o ∈ oI,∀ x ∈ o,0<=x/\x<(ts.length:Int):=fun o ho x hx=>by
  have:=tab.ic o ho x hx
  rw [HJ];exact this
 refine aE (ρ1:=y8 ns (kz cI oI) nm ts as (oI.map fun o=>o.map (nameAt ts))) (jR 5 (Fl (eR.to (t':=.ow ((oI.map fun o=>o.map (nameAt ts)).map aP)) (lP (own:=["_law_order_here"]) (fr:=[3]) oI dis (fun o=>aP (o.map (nameAt ts))) (bN (p8 (d:=.lst (oI.map dis)) (ae 1 rfl) af rfl rfl) rfl) (aZ 0 (fun _=>by show List.Nodup (["_law_order_here", "_law_things"]:List Str);decide)) (by decide) (by omega) (fun o ho=>⟨_,rfl,by
   have ol:=tab.Oo ho
   refine Ev.to (dh (own:=["_law_number"]) (fr:=[1]) o di (fun x=>tx (nameAt ts x)) (fun i=>X8 ["_law_order_here", "_law_things"] ⟨rfl,by decide +kernel,by decide +kernel,by decide +kernel,by decide +kernel⟩ fun y hy=>rW _ _ y hy) (bN (ae 0 rfl) rfl) (aZ 0 (fun _=>by show List.Nodup (["_law_number", "_law_things"]:List Str);decide)) (by decide) (by omega) (fun x hx=>⟨_,rfl,by
    have:=ic o ho x hx
    exact bA (d:=ds (nameAt ts x)) (ae 1 rfl) (ae 0 rfl) (dW ts) (Wv this.1 this.2)⟩) (fun dd=>by cases dd<;>rfl)) ?_
   show Tr.ow _=Tr.ow (List.map tx (List.map _ _))
   rw [qr];rfl⟩) (fun dd=>by cases dd<;>rfl)) (by show Tr.ow _=Tr.ow _;rw [qr];rfl)) (Lb _)) (fun i=>N7 ⟨rfl,rfl,by decide +kernel,by decide +kernel,by decide +kernel,by decide +kernel⟩) (fun _=>gq.nd)) ?_
 have hg:Gd (nm.getD 6 "") 0 ⟨ts,cI.map aO,as,oI.map fun o=>o.map (nameAt ts)⟩ cI:=by
  refine ⟨rfl,fun x hx=>?_,HJ,by show as.length=(oI.map _).length;rw [aa];exact Rp,by show ts.length<=_;omega,by show as.length<=_;omega,fun o ho=>?_,HK,Rq,fun o ho w hw=>?_,hN⟩
  ·have:=tab.cnt x hx
   omega
  ·obtain ⟨o',cu,rfl⟩:=zd.mp ho
   have:=tab.Oo cu
   rw [aa];omega
  ·obtain ⟨o',cu,rfl⟩:=zd.mp ho
   obtain ⟨x,hx,rfl⟩:=zd.mp hw
   have:=ic o' cu x hx
   exact HK _ (BU this.1 this.2).2
 obtain ⟨⟨cj,gd⟩,sp⟩:=Em (ns:=ns) M hg 2
 refine Vy (x:=⟨ts,cI.map aO,as,oI.map fun o=>o.map (nameAt ts)⟩) T uk mz (ee _) (Mn _) M hg ?_ ?_ ?_
 ·refine Ev.to (dh (own:=["_law_count"]) (fr:=[]) cI di (fun x=>tx (aO x)) (fun i=>bQ) (bN (p8 (d:=dis cI) (ae 1 rfl) af rfl rfl) rfl) (aZ 0 (fun _=>by show List.Nodup (["_law_count"]:List Str);decide)) (by decide) (by omega) (fun x hx=>⟨_,rfl,by
   have:=tab.cnt x hx
   exact L7 T.sV (ae 0 rfl) (NG (Nat.log2_le_self _) (by omega))⟩) (fun dd=>by cases dd<;>rfl)) ?_
  show Tr.ow _=Tr.ow (List.map tx (List.map _ _))
  rw [qr];rfl
 ·refine Ev.to (fM (ae 2 rfl) rfl (eS af) (eS af)) ?_
  rw [show ((6:Int))=((6:Nat):Int) from rfl,show ((14:Int))=((14:Nat):Int) from rfl,KW,aa,nl,<- Zp,<- acK,qr];rfl
 have fin:eJ (eG ns ((nm.drop 6).take 8) ⟨ts,cI.map aO,as,oI.map fun o=>o.map (nameAt ts)⟩ 2).ts cj (eG ns ((nm.drop 6).take 8) ⟨ts,cI.map aO,as,oI.map fun o=>o.map (nameAt ts)⟩ 2).as (eG ns ((nm.drop 6).take 8) ⟨ts,cI.map aO,as,oI.map fun o=>o.map (nameAt ts)⟩ 2).os=.made->cj=cI/\eE (eG ns ((nm.drop 6).take 8) ⟨ts,cI.map aO,as,oI.map fun o=>o.map (nameAt ts)⟩ 2).ts (eG ns ((nm.drop 6).take 8) ⟨ts,cI.map aO,as,oI.map fun o=>o.map (nameAt ts)⟩ 2).os=oI:=fun hm=>by
  rcases sp with s | s
  ·rw [s] at gd ⊢
   exact ⟨K0 gd.cn hg.cn gd.cs.symm,Wu Ro ic⟩
  ·exact absurd hm (XN gd (ee _) s)
 generalize eG ns ((nm.drop 6).take 8) ⟨ts,cI.map aO,as,oI.map fun o=>o.map (nameAt ts)⟩ 2=y at gd fin
 have hc:=gd.cw (ee _)
 have ok:=hc.ok
 have HL:=gd.cs
 obtain ⟨yt,yc,ya,yo⟩:=y
 have HL:yc=cj.map aO:=HL
 subst HL
 generalize (nm.drop 6).take 8=ms
 show cz _ _ [some (.fz (dis ns)),some (.fz (kz cI oI)),some (.fz (ag nm)),some (.fz (ag yt)),some (.fz (ag ya)),some (.fz (.lst (yo.map ag))),some (.fz (dC yt cj ya yo ms)),none,none,none,none,none,none,none,none,none] _
 have hc:Cw yt cj ya yo:=hc
 have fin:eJ yt cj ya yo=.made->cj=cI/\eE yt yo=oI:=fin
 have ok:gw (aK yt cj ya yo):=ok
 refine aE (bS 8 (Ev.s (Ev.as (d:=.tup [dis (dG (eJ yt cj ya yo)),.fl (ez (eJ yt cj ya yo))]) (bZ TR (ee _) (ah (ae 6 rfl) ao) ⟨yt,cj,ya,yo,ms,hc,rfl,rfl⟩) (XQ _))) (fun _=>gq.nd)) ?_
 refine aE (ρ1:=[some (.fz (dis ns)),some (.fz (kz cI oI)),some (.fz (ag nm)),some (.fz (ag yt)),some (.fz (ag ya)),some (.fz (.lst (yo.map ag))),some (.fz (dC yt cj ya yo ms)),none,some (.fz (.tup [dis (dG (eJ yt cj ya yo)),.fl (ez (eJ yt cj ya yo))])),some (aP ((aK yt cj ya yo).map (Str.join (one 32)))),none,none,none,none,none,none]) (bS 9 (Ev.s (bZ S2 (ee _) (ah (ae 6 rfl) ao) ⟨yt,cj,ya,yo,ms,hc,rfl,rfl⟩)) (fun _=>gq.nd)) ?_
 have wl:=ok.ln
 refine aE (ρ1:=[some (.fz (dis ns)),some (.fz (kz cI oI)),some (.fz (ag nm)),some (.fz (ag yt)),some (.fz (ag ya)),some (.fz (.lst (yo.map ag))),some (.fz (dC yt cj ya yo ms)),none,some (.fz (.tup [dis (dG (eJ yt cj ya yo)),.fl (ez (eJ yt cj ya yo))])),some (aP ((aK yt cj ya yo).map (Str.join (one 32)))),some (tx (bL (aK yt cj ya yo))),none,none,none,none,none]) (bS 10 (cF.to (t':=tx (bL (aK yt cj ya yo))) (Ev.pk (nX (ws:=(aK yt cj ya yo).map (Str.join (one 32))) bJ (ae 9 rfl) (dW _) (jz (by rw [aa];exact wl) fun x hx=>by
   obtain ⟨l,hl,rfl⟩:=zd.mp hx
   have:=ok.line hl
   omega)) True.intro) (by rw [pR,mR])) (fun _=>gq.nd)) ?_
 refine aE (bS 11 (Ev.s (bU (bZ mz (Mn _) (ah (ae 0 rfl) (ah af ao)) ⟨ns,19,by decide,rfl,rfl⟩) (Ea af af ⟨by decide,by decide,by decide⟩) (by decide))) (fun _=>gq.nd)) ?_
 generalize aW ns 19 % 10 ^ (30:Int).toNat=ce
 have cd:∀ m:Int,0<m->m<100->qj ce m:=fun m a b=>⟨by omega,fg (by omega) (by omega)⟩
 cases hq:decide (ce % 3=1) with
 |false =>
  refine aE (cA (Et.s (eh (bU (ae 11 rfl) af (by decide)) af)) hq) ?_
  refine MZ (c:=c) (t9:=some (aP ((aK yt cj ya yo).map (Str.join (one 32))))) T wB (ee _) ?_
  by_cases hm:eJ yt cj ya yo=.made
  ·exact .inr ⟨hm,cj,yo,hc,hm,rfl,(fin hm).1,(fin hm).2⟩
  ·exact .inl ⟨Rd.cw yt cj ya yo hc hm,hm⟩
 |true =>
  have odd:=XF (c:=c) hc (n:=(ce / 24 % ((aK yt cj ya yo).length:Int)).toNat) (by
   have:=hc.bs.l1
   obtain ⟨i0,i1⟩:=mod_lt (ce / 24) (m:=((aK yt cj ya yo).length:Int)) (by omega)
   omega) (ce / 3 % 8) (ce / 24)
  refine aE (ρ1:=HD ns (kz cI oI) nm yt ya (.lst (yo.map ag)) (dC yt cj ya yo ms) .text none (j6 (aK yt cj ya yo) (ce / 24 % ((aK yt cj ya yo).length:Int)).toNat (ce / 3 % 8) (ce / 24)) ce) (oq (Et.s (eh (bU (ae 11 rfl) af (by decide)) af)) hq (aE (bS 8 (Ev.s (Ev.as (d:=.tup [dis (dG .text),.fl (ez .text)]) (jQ (ah (b0 (ah af (ah af ao)) (by show 2<=sizeLine;decide)) (ah jP ao)) (by show 2<=sizeLine;decide)) rfl)) (fun _=>gq.nd)) (aS (Wh 10 9 JN (ee _) rfl (by show 10<16;decide) (ah (bU (gF (ae 11 rfl) af (cd 3 (by decide) (by decide))) af (by decide)) (ah (gF (ae 11 rfl) af (cd 24 (by decide) (by decide))) ao)) ⟨yt,cj,ya,yo,ce / 3 % 8,ce / 24,hc,rfl,rfl⟩ (fun τ we i=>lD (i:=10) gq.nd rfl (Or.inl rfl) (Ey JN (((cZ P w K mg base f (k+7)).hr i).mono (ee _)) (by rfl) (au (pv 9) (we i)))))))) ?_
  exact MZ (c:=c) T wB (ee _) (.inl ⟨odd,fun z=>nomatch z⟩)
end
end bI
namespace bI
open PySem L2
theorem lb {α:Type}{us:List α}(h:us.length=1):∃ a0,us=[a0]:=by
 rcases us with _ | ⟨a0,us⟩;· cases h
 rcases us with _ | ⟨b,us⟩
 ·exact ⟨a0,rfl⟩
 ·simp at h
theorem pq {α:Type}{us:List α}(h:us.length=2):∃ a0 a1,us=[a0,a1]:=by
 rcases us with _ | ⟨a0,us⟩;· cases h
 rcases us with _ | ⟨a1,us⟩;· cases h
 rcases us with _ | ⟨b,us⟩
 ·exact ⟨a0,a1,rfl⟩
 ·simp at h
theorem HM {α:Type}{us:List α}(h:us.length=3):∃ a0 a1 a2,us=[a0,a1,a2]:=by
 rcases us with _ | ⟨a0,us⟩;· cases h
 rcases us with _ | ⟨a1,us⟩;· cases h
 rcases us with _ | ⟨a2,us⟩;· cases h
 rcases us with _ | ⟨b,us⟩
 ·exact ⟨a0,a1,a2,rfl⟩
 ·simp at h
theorem us4 {α:Type}{us:List α}(h:us.length=4):∃ a0 a1 a2 a3,us=[a0,a1,a2,a3]:=by
 rcases us with _ | ⟨a0,us⟩;· cases h
 rcases us with _ | ⟨a1,us⟩;· cases h
 rcases us with _ | ⟨a2,us⟩;· cases h
 rcases us with _ | ⟨a3,us⟩;· cases h
 rcases us with _ | ⟨b,us⟩
 ·exact ⟨a0,a1,a2,a3,rfl⟩
 ·simp at h
theorem fJ {K:Frag}{h:Heap}{mg:Str->Option Value}(base:Heap)(l:PySem.W.OpenLaw)(w:World)(X:K.In h)(G:h.Ns mainGlobals mg){k:Nat}{n:Str}{f:Addr}{fd:FuncData}{ps:List Str}{sp:Sp}(ok:bc l.prog w K mg base aG k f fd ps sp)(a:nsIn K mainGlobals n=some (some (.ref f)))(kp:keepIn K (.ref f)=true)(b:Binds K fd ps []):Kn l.prog w K mg base aG k n f fd ps sp:=Kn.mk ok (mg_of X G a) kp b
theorem all_mk {l:PySem.W.OpenLaw}{w:World}{K:Frag}{h:Heap}{mg:Str->Option Value}{fa:Addr}(X:K.In h)(G:h.Ns mainGlobals mg)(hfa:mg "law" = some (.ref fa)){f1:Addr}{od1 an1:Option Addr}{yS:Array (Option Value)}{oc1 kV1 dc1 pm1 Rr ct1:Value}{f2:Addr}{od2 an2:Option Addr}{aL:Array (Option Value)}{oc2 kV2 dc2 pm2 Rt ct2:Value}{f3:Addr}{od3 an3:Option Addr}{Hh:Array (Option Value)}{oc3 kV3 dc3 pm3 Ru ct3:Value}{f4:Addr}{od4 an4:Option Addr}{sl4:Array (Option Value)}{oc4 kV4 dc4 pm4 Rv ct4:Value}{f5:Addr}{od5 an5:Option Addr}{sl5:Array (Option Value)}{oc5 kV5 dc5 pm5 Rw ct5:Value}{f6:Addr}{od6 an6:Option Addr}{sl6:Array (Option Value)}{oc6 kV6 dc6 pm6 Rx ct6:Value}{f7:Addr}{od7 an7:Option Addr}{sl7:Array (Option Value)}{oc7 kV7 dc7 pm7 y6 ct7:Value}{f8:Addr}{od8 an8:Option Addr}{sl8:Array (Option Value)}{oc8 kV8 dc8 pm8 Ry ct8:Value}{f9:Addr}{od9 an9:Option Addr}{sl9:Array (Option Value)}{oc9 kV9 dc9 pm9 Rz ct9:Value}{HN:Addr}{Zd Ze:Option Addr}{Zf:Array (Option Value)}{Zg Zh Zi Zj OV Zk:Value}{HP:Addr}{Zm Zn:Option Addr}{Zo:Array (Option Value)}{Zq Zr Zt Zu OW Zv:Value}{HQ:Addr}{Zw Zx:Option Addr}{Zy:Array (Option Value)}{Zz ZA ZC ZD OX ZE:Value}{HR:Addr}{ZF ZG:Option Addr}{ZH:Array (Option Value)}{ZI ZJ ZK ZL OY ZM:Value}{HS:Addr}{ZN ZO:Option Addr}{ZP:Array (Option Value)}{ZQ ZR ZS ZT OZ ZU:Value}{HU:Addr}{ZV ZW:Option Addr}{ZX:Array (Option Value)}{ZY ZZ Z0 Z3 O0 Z4:Value}{HV:Addr}{Z5 Z6:Option Addr}{Z7:Array (Option Value)}{Z8 Z9 aac aad O1 aae:Value}{HW:Addr}{aaf aag:Option Addr}{aah:Array (Option Value)}{aai aaj aak aal O2 aam:Value}{HX:Addr}{aan aao:Option Addr}{aap:Array (Option Value)}{aaq aar aas aat O3 aau:Value}{HY:Addr}{aav aaw:Option Addr}{aax:Array (Option Value)}{aay aaz aaA aaB O4 aaC:Value}{HZ:Addr}{aaD aaE:Option Addr}{aaF:Array (Option Value)}{aaG aaH aaI aaJ O5 aaK:Value}{Ia:Addr}{aaL aaM:Option Addr}{aaN:Array (Option Value)}{aaO aaP aaQ aaR O6 aaS:Value}{Ib:Addr}{aaT O7:Option Addr}{aaU:Array (Option Value)}{aaV O8 O9 Pa FH Pb:Value}{gt1:Tok}{gt2:Tok}{gt3:Tok}{gt4:Tok}{gt5:Tok}{gt6:Tok}{gt7:Tok}{gt8:Tok}{fK cN cQ cO bY cf cR lq lA lr cS cT lJ lB wm wo:Addr}{aaW aaX aaY aaZ Pg aa0:Value}{aa1 aa2:Option Addr}{aa3:Array (Option Value)}{Ph:Option Addr}{Pj Pk:Str}{Pl NR:List Value}{Pm:Addr}{Pn:List Str}{Pp:Bool}{NS:Option Bool}{Pq Pr Pt Pu Pw:Option Value}{aa4 aa5 aa6 aa7 Px aa8:Value}{aa9 abb:Option Addr}{abd:Array (Option Value)}{Py:Option Addr}{Pz PB:Str}{PC NT:List Value}{PD:Addr}{PF:List Str}{PH:Bool}{NU:Option Bool}{PJ PK PL PN PQ:Option Value}(a1:nsIn K mainGlobals "is_figures" = some (some (.ref f1)))(l1:K.lookup f1=some ⟨oc1,od1,.func (fnOf "is_figures" "is_figures" (cJ rK) (bR rK) (aD rK) .none kV1 dc1 pm1 an1 Rr ct1),yS⟩)(c1:codeIn K Rr "is_figures" = true)(k1:keepIn K (.ref f1)=true)(a2:nsIn K mainGlobals "check_orders" = some (some (.ref f2)))(l2:K.lookup f2=some ⟨oc2,od2,.func (fnOf "check_orders" "check_orders" (cJ pA) (bR pA) (aD pA) .none kV2 dc2 pm2 an2 Rt ct2),aL⟩)(c2:codeIn K Rt "check_orders" = true)(k2:keepIn K (.ref f2)=true)(a3:nsIn K mainGlobals "table_of" = some (some (.ref f3)))(l3:K.lookup f3=some ⟨oc3,od3,.func (fnOf "table_of" "table_of" (cJ pK) (bR pK) (aD pK) .none kV3 dc3 pm3 an3 Ru ct3),Hh⟩)(c3:codeIn K Ru "table_of" = true)(k3:keepIn K (.ref f3)=true)(a4:nsIn K mainGlobals "is_name" = some (some (.ref f4)))(l4:K.lookup f4=some ⟨oc4,od4,.func (fnOf "is_name" "is_name" (cJ se) (bR se) (aD se) .none kV4 dc4 pm4 an4 Rv ct4),sl4⟩)(c4:codeIn K Rv "is_name" = true)(k4:keepIn K (.ref f4)=true)(a5:nsIn K mainGlobals "is_count" = some (some (.ref f5)))(l5:K.lookup f5=some ⟨oc5,od5,.func (fnOf "is_count" "is_count" (cJ rT) (bR rT) (aD rT) .none kV5 dc5 pm5 an5 Rw ct5),sl5⟩)(c5:codeIn K Rw "is_count" = true)(k5:keepIn K (.ref f5)=true)(a6:nsIn K mainGlobals "check_words" = some (some (.ref f6)))(l6:K.lookup f6=some ⟨oc6,od6,.func (fnOf "check_words" "check_words" (cJ pE) (bR pE) (aD pE) .none kV6 dc6 pm6 an6 Rx ct6),sl6⟩)(c6:codeIn K Rx "check_words" = true)(k6:keepIn K (.ref f6)=true)(a7:nsIn K mainGlobals "check_double" = some (some (.ref f7)))(l7:K.lookup f7=some ⟨oc7,od7,.func (fnOf "check_double" "check_double" (cJ pC) (bR pC) (aD pC) .none kV7 dc7 pm7 an7 y6 ct7),sl7⟩)(c7:codeIn K y6 "check_double" = true)(k7:keepIn K (.ref f7)=true)(a8:nsIn K mainGlobals "read_order" = some (some (.ref f8)))(l8:K.lookup f8=some ⟨oc8,od8,.func (fnOf "read_order" "read_order" (cJ pG) (bR pG) (aD pG) .none kV8 dc8 pm8 an8 Ry ct8),sl8⟩)(c8:codeIn K Ry "read_order" = true)(k8:keepIn K (.ref f8)=true)(a9:nsIn K mainGlobals "read_lines" = some (some (.ref f9)))(l9:K.lookup f9=some ⟨oc9,od9,.func (fnOf "read_lines" "read_lines" (cJ pH) (bR pH) (aD pH) .none kV9 dc9 pm9 an9 Rz ct9),sl9⟩)(c9:codeIn K Rz "read_lines" = true)(k9:keepIn K (.ref f9)=true)(j9:nsIn K mainGlobals "read_table" = some (some (.ref HN)))(l10:K.lookup HN=some ⟨Zg,Zd,.func (fnOf "read_table" "read_table" (cJ pI) (bR pI) (aD pI) .none Zh Zi Zj Ze OV Zk),Zf⟩)(Ic:codeIn K OV "read_table" = true)(wq:keepIn K (.ref HN)=true)(Ie:nsIn K mainGlobals "_law_cell_at" = some (some (.ref HP)))(Ig:K.lookup HP=some ⟨Zq,Zm,.func (fnOf "_law_cell_at" "_law_cell_at" (cJ rF) (bR rF) (aD rF) .none Zr Zt Zu Zn OW Zv),Zo⟩)(Ih:codeIn K OW "_law_cell_at" = true)(zg:keepIn K (.ref HP)=true)(Ii:nsIn K mainGlobals "_law_order" = some (some (.ref HQ)))(Ij:K.lookup HQ=some ⟨Zz,Zw,.func (fnOf "_law_order" "_law_order" (cJ rM) (bR rM) (aD rM) .none ZA ZC ZD Zx OX ZE),Zy⟩)(Ik:codeIn K OX "_law_order" = true)(zh:keepIn K (.ref HQ)=true)(Il:nsIn K mainGlobals "_law_table" = some (some (.ref HR)))(Im:K.lookup HR=some ⟨ZI,ZF,.func (fnOf "_law_table" "_law_table" (cJ rN) (bR rN) (aD rN) .none ZJ ZK ZL ZG OY ZM),ZH⟩)(Io:codeIn K OY "_law_table" = true)(zi:keepIn K (.ref HR)=true)(Ip:nsIn K mainGlobals "_law_name" = some (some (.ref HS)))(Iq:K.lookup HS=some ⟨ZQ,ZN,.func (fnOf "_law_name" "_law_name" (cJ rQ) (bR rQ) (aD rQ) .none ZR ZS ZT ZO OZ ZU),ZP⟩)(Ir:codeIn K OZ "_law_name" = true)(zj:keepIn K (.ref HS)=true)(Iu:nsIn K mainGlobals "_law_names" = some (some (.ref HU)))(Iv:K.lookup HU=some ⟨ZY,ZV,.func (fnOf "_law_names" "_law_names" (cJ rO) (bR rO) (aD rO) .none ZZ Z0 Z3 ZW O0 Z4),ZX⟩)(Iw:codeIn K O0 "_law_names" = true)(zk:keepIn K (.ref HU)=true)(Iy:nsIn K mainGlobals "_law_classes" = some (some (.ref HV)))(Iz:K.lookup HV=some ⟨Z8,Z5,.func (fnOf "_law_classes" "_law_classes" (cJ pB) (bR pB) (aD pB) .none Z9 aac aad Z6 O1 aae),Z7⟩)(c16:codeIn K O1 "_law_classes" = true)(zm:keepIn K (.ref HV)=true)(IA:nsIn K mainGlobals "_law_faulty" = some (some (.ref HW)))(IB:K.lookup HW=some ⟨aai,aaf,.func (fnOf "_law_faulty" "_law_faulty" (cJ pF) (bR pF) (aD pF) .none aaj aak aal aag O2 aam),aah⟩)(IC:codeIn K O2 "_law_faulty" = true)(zo:keepIn K (.ref HW)=true)(IE:nsIn K mainGlobals "_law_due" = some (some (.ref HX)))(IG:K.lookup HX=some ⟨aaq,aan,.func (fnOf "_law_due" "_law_due" (cJ rU) (bR rU) (aD rU) .none aar aas aat aao O3 aau),aap⟩)(IH:codeIn K O3 "_law_due" = true)(zp:keepIn K (.ref HX)=true)(II:nsIn K mainGlobals "_law_lines" = some (some (.ref HY)))(IJ:K.lookup HY=some ⟨aay,aav,.func (fnOf "_law_lines" "_law_lines" (cJ rL) (bR rL) (aD rL) .none aaz aaA aaB aaw O4 aaC),aax⟩)(IK:codeIn K O4 "_law_lines" = true)(zq:keepIn K (.ref HY)=true)(gY:nsIn K mainGlobals "_law_odd" = some (some (.ref HZ)))(IL:K.lookup HZ=some ⟨aaG,aaD,.func (fnOf "_law_odd" "_law_odd" (cJ rV) (bR rV) (aD rV) .none aaH aaI aaJ aaE O5 aaK),aaF⟩)(IM:codeIn K O5 "_law_odd" = true)(zr:keepIn K (.ref HZ)=true)(IP:nsIn K mainGlobals "_law_told" = some (some (.ref Ia)))(IQ:K.lookup Ia=some ⟨aaO,aaL,.func (fnOf "_law_told" "_law_told" (cJ lg) (bR lg) (aD lg) .none aaP aaQ aaR aaM O6 aaS),aaN⟩)(IT:codeIn K O6 "_law_told" = true)(zt:keepIn K (.ref Ia)=true)(IU:nsIn K mainGlobals "law" = some (some (.ref Ib)))(IV:K.lookup Ib=some ⟨aaV,aaT,.func (fnOf "law" "law" (cJ kv) (bR kv) (aD kv) .none O8 O9 Pa O7 FH Pb),aaU⟩)(IW:codeIn K FH "law" = true)(IY:keepIn K (.ref Ib)=true)(Bz:nsIn K mainGlobals "isinstance" = some none)(EX:nsIn K mainGlobals "int" = some none)(Ep:nsIn K mainGlobals "bool" = some none)(Er:nsIn K mainGlobals "list" = some none)(DW:nsIn K mainGlobals "tuple" = some none)(EY:nsIn K mainGlobals "str" = some none)(EZ:nsIn K mainGlobals "len" = some none)(DX:nsIn K mainGlobals "range" = some none)(E1:nsIn K mainGlobals "zip" = some none)(BC:nsIn K mainGlobals "enumerate" = some none)(E2:nsIn K mainGlobals "all" = some none)(E3:nsIn K mainGlobals "any" = some none)(E4:nsIn K mainGlobals "set" = some none)(BA:nsIn K mainGlobals "ValueError" = some none)(ux:nsIn K mainGlobals "FIGURES" = some (some (.str "0123456789" gt1)))(uh:nsIn K mainGlobals "MOST_FIGURES" = some (some (.int 60 gt2)))(sN:nsIn K mainGlobals "MOST" = some (some (.int 6 gt3)))(rH:nsIn K mainGlobals "MOST_COUNT" = some (some (.int 9 gt4)))(uy:nsIn K mainGlobals "LETTERS" = some (some (.str "abcdefghijklmnopqrstuvwxyz" gt5)))(ui:nsIn K mainGlobals "MOST_LETTERS" = some (some (.int 8 gt6)))(ud:nsIn K mainGlobals "MOST_COUNT_FIGURES" = some (some (.int 9 gt7)))(rJ:nsIn K mainGlobals "FIRST_WORD" = some (some (.str "things" gt8)))(BV:nsIn K mainGlobals "LotError" = some (some (.ref fK)))(rR:nsIn K mainGlobals "TooGreat" = some (some (.ref cN)))(rZ:nsIn K mainGlobals "NoAsker" = some (some (.ref cQ)))(rS:nsIn K mainGlobals "NoNumber" = some (some (.ref cO)))(sd:nsIn K mainGlobals "NoThing" = some (some (.ref bY)))(pZ:nsIn K mainGlobals "Twice" = some (some (.ref cf)))(mH:nsIn K mainGlobals "NoText" = some (some (.ref cR)))(uo:nsIn K mainGlobals "NoShares" = some (some (.ref lq)))(uz:nsIn K mainGlobals "NoTurns" = some (some (.ref lA)))(uq:nsIn K mainGlobals "NoTicket" = some (some (.ref lr)))(sk:nsIn K mainGlobals "NoName" = some (some (.ref cS)))(so:nsIn K mainGlobals "Double" = some (some (.ref cT)))(uV:nsIn K mainGlobals "NoRow" = some (some (.ref lJ)))(uA:nsIn K mainGlobals "NoTable" = some (some (.ref lB)))(IZ:typeIn K (.ref fK)=some (.type "type"))(Ja:isClsIn K fK=true)(Jb:subIn K (.ref fK) (.type "BaseException")=some true)(zu:excIn K fK dq "ValueError.__new__" = true)(zv:PySem.W.readsIn K fK (.type "type")=true)(zx:PySem.W.findCls K (.ref fK) (.type "type") "__init__" = some (.val (.builtin "ValueError.__init__")))(zy:PySem.W.specialIn K (.ref fK) "__getattribute__" = some (some (.builtin "type.__getattribute__")))(mx:PySem.W.specialIn K (.builtin "object.__class__") "__get__" = some (some (.builtin "getset_descriptor.__get__")))(my:PySem.W.takesIn K (.builtin "object.__class__")=some true)(ur:excIn K cN dq "ValueError.__new__" = true)(uB:excIn K cQ dq "ValueError.__new__" = true)(uv:excIn K cO dq "ValueError.__new__" = true)(nS:excIn K cR dq "ValueError.__new__" = true)(uF:excIn K cS dq "ValueError.__new__" = true)(uG:excIn K cT dq "ValueError.__new__" = true)(Jc:K.lookup bY=some ⟨.type "type",Ph,.cls ⟨Pj,Pl,.ref bY::.ref fK::dq,Pm,Pk,true,Pn,NR,Pp,NS,false⟩,#[Pq,Pr,Pt,Pu,some (.builtin "ValueError.__new__"),Pw]⟩)(FI:findIn K (.ref bY) "__init__" = some (some (.ref wm)))(Jd:K.lookup wm=some ⟨aaW,aa1,.func (fnOf "__init__" "NoThing.__init__" (cJ sy) (bR sy) (aD sy) .none aaX aaY aaZ aa2 Pg aa0),aa3⟩)(Je:codeIn K Pg "NoThing.__init__" = true)(Jf:keepIn K (.ref wm)=true)(FJ:PySem.W.isFn K (.ref wm)=true)(Jg:findIn K (.ref bY) "__setattr__" = some (some (.builtin "object.__setattr__")))(FK:keepIn K (.ref bY)=true)(FL:findIn K (.ref bY) "asker" = some none)(FN:hasDictIn K bY=true)(Jh:K.lookup cf=some ⟨.type "type",Py,.cls ⟨Pz,PC,.ref cf::.ref fK::dq,PD,PB,true,PF,NT,PH,NU,false⟩,#[PJ,PK,PL,PN,some (.builtin "ValueError.__new__"),PQ]⟩)(FO:findIn K (.ref cf) "__init__" = some (some (.ref wo)))(Ji:K.lookup wo=some ⟨aa4,aa9,.func (fnOf "__init__" "Twice.__init__" (cJ sA) (bR sA) (aD sA) .none aa5 aa6 aa7 abb Px aa8),abd⟩)(Jj:codeIn K Px "Twice.__init__" = true)(Jk:keepIn K (.ref wo)=true)(FP:PySem.W.isFn K (.ref wo)=true)(Jl:findIn K (.ref cf) "__setattr__" = some (some (.builtin "object.__setattr__")))(FQ:keepIn K (.ref cf)=true)(FR:findIn K (.ref cf) "asker" = some none)(FT:hasDictIn K cf=true)(BW:subIn K (.ref cN) (.ref fK)=some true)(BD:findIn K (.ref cN) "__getattribute__" = some (some (.builtin "BaseException.__getattribute__")))(BE:findIn K (.ref cN) "__getattr__" = some none)(BF:findIn K (.ref cN) "__class__" = some (some (.builtin "object.__class__")))(BG:mroIn K cN (.type "object")=some true)(BH:isClsIn K cN=true)(BI:mroIn K cN (.type "BaseException")=some true)(BX:kitOne K (.ref cN) (.type "ValueError")=some true)(zJ:kitOne K (.ref cN) (.ref lA)=some false)(zB:kitOne K (.ref cN) (.ref cN)=some true)(zK:kitOne K (.ref cN) (.ref cQ)=some false)(zL:kitOne K (.ref cN) (.ref bY)=some false)(Av:kitOne K (.ref cN) (.ref cf)=some false)(zC:kitOne K (.ref cN) (.ref cO)=some false)(zZ:kitOne K (.ref cN) (.ref cR)=some false)(zD:kitOne K (.ref cN) (.ref lq)=some false)(zE:kitOne K (.ref cN) (.ref lr)=some false)(z5:kitOne K (.ref cN) (.ref cS)=some false)(z6:kitOne K (.ref cN) (.ref cT)=some false)(Aw:kitOne K (.ref cN) (.ref lJ)=some false)(zM:kitOne K (.ref cN) (.ref lB)=some false)(CG:subIn K (.ref cQ) (.ref fK)=some true)(BZ:findIn K (.ref cQ) "__getattribute__" = some (some (.builtin "BaseException.__getattribute__")))(B5:findIn K (.ref cQ) "__getattr__" = some none)(B6:findIn K (.ref cQ) "__class__" = some (some (.builtin "object.__class__")))(B7:mroIn K cQ (.type "object")=some true)(B8:isClsIn K cQ=true)(B9:mroIn K cQ (.type "BaseException")=some true)(CH:kitOne K (.ref cQ) (.type "ValueError")=some true)(z7:kitOne K (.ref cQ) (.ref lA)=some false)(zN:kitOne K (.ref cQ) (.ref cN)=some false)(z8:kitOne K (.ref cQ) (.ref cQ)=some true)(z9:kitOne K (.ref cQ) (.ref bY)=some false)(A3:kitOne K (.ref cQ) (.ref cf)=some false)(zO:kitOne K (.ref cQ) (.ref cO)=some false)(Ax:kitOne K (.ref cQ) (.ref cR)=some false)(zP:kitOne K (.ref cQ) (.ref lq)=some false)(zQ:kitOne K (.ref cQ) (.ref lr)=some false)(Ay:kitOne K (.ref cQ) (.ref cS)=some false)(Az:kitOne K (.ref cQ) (.ref cT)=some false)(A4:kitOne K (.ref cQ) (.ref lJ)=some false)(Aa:kitOne K (.ref cQ) (.ref lB)=some false)(Ca:subIn K (.ref cO) (.ref fK)=some true)(BJ:findIn K (.ref cO) "__getattribute__" = some (some (.builtin "BaseException.__getattribute__")))(BK:findIn K (.ref cO) "__getattr__" = some none)(BL:findIn K (.ref cO) "__class__" = some (some (.builtin "object.__class__")))(BM:mroIn K cO (.type "object")=some true)(BO:isClsIn K cO=true)(BP:mroIn K cO (.type "BaseException")=some true)(Cb:kitOne K (.ref cO) (.type "ValueError")=some true)(zR:kitOne K (.ref cO) (.ref lA)=some false)(zF:kitOne K (.ref cO) (.ref cN)=some false)(zS:kitOne K (.ref cO) (.ref cQ)=some false)(zT:kitOne K (.ref cO) (.ref bY)=some false)(AA:kitOne K (.ref cO) (.ref cf)=some false)(zG:kitOne K (.ref cO) (.ref cO)=some true)(Ab:kitOne K (.ref cO) (.ref cR)=some false)(zH:kitOne K (.ref cO) (.ref lq)=some false)(zI:kitOne K (.ref cO) (.ref lr)=some false)(Ac:kitOne K (.ref cO) (.ref cS)=some false)(Ad:kitOne K (.ref cO) (.ref cT)=some false)(AB:kitOne K (.ref cO) (.ref lJ)=some false)(zU:kitOne K (.ref cO) (.ref lB)=some false)(CI:subIn K (.ref bY) (.ref fK)=some true)(Cd:findIn K (.ref bY) "__getattribute__" = some (some (.builtin "BaseException.__getattribute__")))(Ce:findIn K (.ref bY) "__getattr__" = some none)(Cg:findIn K (.ref bY) "__class__" = some (some (.builtin "object.__class__")))(Ci:mroIn K bY (.type "object")=some true)(Cj:isClsIn K bY=true)(Ck:mroIn K bY (.type "BaseException")=some true)(CJ:kitOne K (.ref bY) (.type "ValueError")=some true)(Ae:kitOne K (.ref bY) (.ref lA)=some false)(zV:kitOne K (.ref bY) (.ref cN)=some false)(Af:kitOne K (.ref bY) (.ref cQ)=some false)(Ag:kitOne K (.ref bY) (.ref bY)=some true)(A5:kitOne K (.ref bY) (.ref cf)=some false)(zW:kitOne K (.ref bY) (.ref cO)=some false)(AD:kitOne K (.ref bY) (.ref cR)=some false)(zX:kitOne K (.ref bY) (.ref lq)=some false)(zY:kitOne K (.ref bY) (.ref lr)=some false)(AF:kitOne K (.ref bY) (.ref cS)=some false)(AG:kitOne K (.ref bY) (.ref cT)=some false)(A6:kitOne K (.ref bY) (.ref lJ)=some false)(Ah:kitOne K (.ref bY) (.ref lB)=some false)(DY:subIn K (.ref cf) (.ref fK)=some true)(Dq:findIn K (.ref cf) "__getattribute__" = some (some (.builtin "BaseException.__getattribute__")))(Dr:findIn K (.ref cf) "__getattr__" = some none)(Ds:findIn K (.ref cf) "__class__" = some (some (.builtin "object.__class__")))(Dt:mroIn K cf (.type "object")=some true)(Du:isClsIn K cf=true)(Dw:mroIn K cf (.type "BaseException")=some true)(DZ:kitOne K (.ref cf) (.type "ValueError")=some true)(A7:kitOne K (.ref cf) (.ref lA)=some false)(AH:kitOne K (.ref cf) (.ref cN)=some false)(A8:kitOne K (.ref cf) (.ref cQ)=some false)(A9:kitOne K (.ref cf) (.ref bY)=some false)(Bv:kitOne K (.ref cf) (.ref cf)=some true)(AI:kitOne K (.ref cf) (.ref cO)=some false)(Bk:kitOne K (.ref cf) (.ref cR)=some false)(AJ:kitOne K (.ref cf) (.ref lq)=some false)(AK:kitOne K (.ref cf) (.ref lr)=some false)(Bl:kitOne K (.ref cf) (.ref cS)=some false)(Bm:kitOne K (.ref cf) (.ref cT)=some false)(Bw:kitOne K (.ref cf) (.ref lJ)=some false)(Ba:kitOne K (.ref cf) (.ref lB)=some false)(Dx:subIn K (.ref cR) (.ref fK)=some true)(CK:findIn K (.ref cR) "__getattribute__" = some (some (.builtin "BaseException.__getattribute__")))(CL:findIn K (.ref cR) "__getattr__" = some none)(CM:findIn K (.ref cR) "__class__" = some (some (.builtin "object.__class__")))(CN:mroIn K cR (.type "object")=some true)(CO:isClsIn K cR=true)(CP:mroIn K cR (.type "BaseException")=some true)(Dy:kitOne K (.ref cR) (.type "ValueError")=some true)(AO:kitOne K (.ref cR) (.ref lA)=some false)(Ai:kitOne K (.ref cR) (.ref cN)=some false)(AQ:kitOne K (.ref cR) (.ref cQ)=some false)(AR:kitOne K (.ref cR) (.ref bY)=some false)(Bn:kitOne K (.ref cR) (.ref cf)=some false)(Aj:kitOne K (.ref cR) (.ref cO)=some false)(Bb:kitOne K (.ref cR) (.ref cR)=some true)(Ak:kitOne K (.ref cR) (.ref lq)=some false)(Al:kitOne K (.ref cR) (.ref lr)=some false)(Bc:kitOne K (.ref cR) (.ref cS)=some false)(Bd:kitOne K (.ref cR) (.ref cT)=some false)(Bo:kitOne K (.ref cR) (.ref lJ)=some false)(AU:kitOne K (.ref cR) (.ref lB)=some false)(Dz:subIn K (.ref cS) (.ref fK)=some true)(CQ:findIn K (.ref cS) "__getattribute__" = some (some (.builtin "BaseException.__getattribute__")))(CT:findIn K (.ref cS) "__getattr__" = some none)(CU:findIn K (.ref cS) "__class__" = some (some (.builtin "object.__class__")))(CV:mroIn K cS (.type "object")=some true)(CW:isClsIn K cS=true)(CY:mroIn K cS (.type "BaseException")=some true)(DA:kitOne K (.ref cS) (.type "ValueError")=some true)(AV:kitOne K (.ref cS) (.ref lA)=some false)(Am:kitOne K (.ref cS) (.ref cN)=some false)(AW:kitOne K (.ref cS) (.ref cQ)=some false)(AX:kitOne K (.ref cS) (.ref bY)=some false)(Bp:kitOne K (.ref cS) (.ref cf)=some false)(An:kitOne K (.ref cS) (.ref cO)=some false)(Be:kitOne K (.ref cS) (.ref cR)=some false)(Ao:kitOne K (.ref cS) (.ref lq)=some false)(Ap:kitOne K (.ref cS) (.ref lr)=some false)(Bf:kitOne K (.ref cS) (.ref cS)=some true)(Bg:kitOne K (.ref cS) (.ref cT)=some false)(Bq:kitOne K (.ref cS) (.ref lJ)=some false)(AY:kitOne K (.ref cS) (.ref lB)=some false)(DB:subIn K (.ref cT) (.ref fK)=some true)(CZ:findIn K (.ref cT) "__getattribute__" = some (some (.builtin "BaseException.__getattribute__")))(C0:findIn K (.ref cT) "__getattr__" = some none)(C1:findIn K (.ref cT) "__class__" = some (some (.builtin "object.__class__")))(C2:mroIn K cT (.type "object")=some true)(C3:isClsIn K cT=true)(C4:mroIn K cT (.type "BaseException")=some true)(DC:kitOne K (.ref cT) (.type "ValueError")=some true)(AZ:kitOne K (.ref cT) (.ref lA)=some false)(Aq:kitOne K (.ref cT) (.ref cN)=some false)(A0:kitOne K (.ref cT) (.ref cQ)=some false)(A1:kitOne K (.ref cT) (.ref bY)=some false)(Br:kitOne K (.ref cT) (.ref cf)=some false)(Ar:kitOne K (.ref cT) (.ref cO)=some false)(Bh:kitOne K (.ref cT) (.ref cR)=some false)(As:kitOne K (.ref cT) (.ref lq)=some false)(Au:kitOne K (.ref cT) (.ref lr)=some false)(Bi:kitOne K (.ref cT) (.ref cS)=some false)(Bj:kitOne K (.ref cT) (.ref cT)=some true)(Bt:kitOne K (.ref cT) (.ref lJ)=some false)(A2:kitOne K (.ref cT) (.ref lB)=some false)
  : ∃ fd:FuncData,(∀ (s:Shared) (v:Value),BindsTo s fd ⟨[v],[]⟩ [("_law_script",v)])/\∀ base:Heap,K.In base->base.Ns mainGlobals mg->bc l.prog w K mg base aG 8 fa fd ["_law_script"] (xS K):=by
 have e:=hfa.symm.trans (mg_of X G IU)
 cases e
 have T:Txt mg:=⟨SI X G Bz,SI X G EX,SI X G Ep,SI X G Er,SI X G DW,SI X G EY,SI X G EZ,SI X G DX,SI X G E1,SI X G BC,SI X G E2,SI X G E3,SI X G E4,⟨_,mg_of X G ux⟩,⟨_,mg_of X G uh⟩,⟨_,mg_of X G sN⟩,⟨_,mg_of X G rH⟩,⟨_,mg_of X G uy⟩,⟨_,mg_of X G ui⟩,⟨_,mg_of X G ud⟩,⟨_,mg_of X G rJ⟩⟩
 let cs:cm:=⟨fK,cN,cQ,cO,bY,cf,cR,lq,lA,lr,cS,cT,lJ,lB⟩
 have U:iT K mg cs wm wo:=⟨SI X G BA,⟨mg_of X G BV,IZ,Ja,Jb⟩,mg_of X G rR,mg_of X G rZ,mg_of X G rS,mg_of X G sd,mg_of X G pZ,mg_of X G mH,mg_of X G uo,mg_of X G uz,mg_of X G uq,mg_of X G sk,mg_of X G so,mg_of X G uV,mg_of X G uA,ur,uB,uv,nS,uF,uG,⟨⟨Ph,Pj,Pl,Pm,Pk,Pn,NR,Pp,NS,Pq,Pr,Pt,Pu,Pw,Jc⟩,zu,FI,FJ,Jg,FK,zv,zx,zy⟩,⟨⟨Py,Pz,PC,PD,PB,PF,NT,PH,NU,PJ,PK,PL,PN,PQ,Jh⟩,zu,FO,FP,Jl,FQ,zv,zx,zy⟩,FL,FR,FN,FT,⟨BW,⟨BD,BE,BF,mx,my,BG,BH,BI⟩,BX,zJ,zB,zK,zL,Av,zC,zZ,zD,zE,z5,z6,Aw,zM⟩,⟨CG,⟨BZ,B5,B6,mx,my,B7,B8,B9⟩,CH,z7,zN,z8,z9,A3,zO,Ax,zP,zQ,Ay,Az,A4,Aa⟩,⟨Ca,⟨BJ,BK,BL,mx,my,BM,BO,BP⟩,Cb,zR,zF,zS,zT,AA,zG,Ab,zH,zI,Ac,Ad,AB,zU⟩,⟨CI,⟨Cd,Ce,Cg,mx,my,Ci,Cj,Ck⟩,CJ,Ae,zV,Af,Ag,A5,zW,AD,zX,zY,AF,AG,A6,Ah⟩,⟨DY,⟨Dq,Dr,Ds,mx,my,Dt,Du,Dw⟩,DZ,A7,AH,A8,A9,Bv,AI,Bk,AJ,AK,Bl,Bm,Bw,Ba⟩,⟨Dx,⟨CK,CL,CM,mx,my,CN,CO,CP⟩,Dy,AO,Ai,AQ,AR,Bn,Aj,Bb,Ak,Al,Bc,Bd,Bo,AU⟩,⟨Dz,⟨CQ,CT,CU,mx,my,CV,CW,CY⟩,DA,AV,Am,AW,AX,Bp,An,Be,Ao,Ap,Bf,Bg,Bq,AY⟩,⟨DB,⟨CZ,C0,C1,mx,my,C2,C3,C4⟩,DC,AZ,Aq,A0,A1,Br,Ar,Bh,As,Au,Bi,Bj,Bt,A2⟩⟩
 have RA:=Ln (st:=sy) Jd Je Jf
 have bIT:=RA.binds (ps:=["self", "asker"]) fun _ _ _ _ _ _ us hl=>by
  obtain ⟨_,_,rfl⟩:=pq hl
  rfl
 have OIT:=fun base=>Vn (P:=l.prog) (w:=w) (base:=base) RA U
 have RB:=Ln (st:=sA) Ji Jj Jk
 have bIW:=RB.binds (ps:=["self", "asker"]) fun _ _ _ _ _ _ us hl=>by
  obtain ⟨_,_,rfl⟩:=pq hl
  rfl
 have OIW:=fun base=>Vp (P:=l.prog) (w:=w) (base:=base) RB U
 have F1:=eU (st:=rK) l1 c1 k1
 have b1:=F1.binds (ps:=["text"]) fun _ _ _ _ _ _ us hl=>by
  obtain ⟨_,rfl⟩:=lb hl
  rfl
 have F2:=eU (st:=pA) l2 c2 k2
 have b2:=F2.binds (ps:=["orders", "many"]) fun _ _ _ _ _ _ us hl=>by
  obtain ⟨_,_,rfl⟩:=pq hl
  rfl
 have F3:=eU (st:=pK) l3 c3 k3
 have b3:=F3.binds (ps:=["counts", "orders"]) fun _ _ _ _ _ _ us hl=>by
  obtain ⟨_,_,rfl⟩:=pq hl
  rfl
 have F4:=eU (st:=se) l4 c4 k4
 have b4:=F4.binds (ps:=["word"]) fun _ _ _ _ _ _ us hl=>by
  obtain ⟨_,rfl⟩:=lb hl
  rfl
 have F5:=eU (st:=rT) l5 c5 k5
 have b5:=F5.binds (ps:=["word"]) fun _ _ _ _ _ _ us hl=>by
  obtain ⟨_,rfl⟩:=lb hl
  rfl
 have F6:=eU (st:=pE) l6 c6 k6
 have b6:=F6.binds (ps:=["lines"]) fun _ _ _ _ _ _ us hl=>by
  obtain ⟨_,rfl⟩:=lb hl
  rfl
 have F7:=eU (st:=pC) l7 c7 k7
 have b7:=F7.binds (ps:=["names"]) fun _ _ _ _ _ _ us hl=>by
  obtain ⟨_,rfl⟩:=lb hl
  rfl
 have F8:=eU (st:=pG) l8 c8 k8
 have b8:=F8.binds (ps:=["things", "words"]) fun _ _ _ _ _ _ us hl=>by
  obtain ⟨_,_,rfl⟩:=pq hl
  rfl
 have F9:=eU (st:=pH) l9 c9 k9
 have b9:=F9.binds (ps:=["texts"]) fun _ _ _ _ _ _ us hl=>by
  obtain ⟨_,rfl⟩:=lb hl
  rfl
 have Jm:=eU (st:=pI) l10 Ic wq
 have RC:=Jm.binds (ps:=["text"]) fun _ _ _ _ _ _ us hl=>by
  obtain ⟨_,rfl⟩:=lb hl
  rfl
 have RD:=eU (st:=rF) Ig Ih zg
 have b11:=RD.binds (ps:=["_law_script", "_law_k"]) fun _ _ _ _ _ _ us hl=>by
  obtain ⟨_,_,rfl⟩:=pq hl
  rfl
 have RE:=eU (st:=rM) Ij Ik zh
 have b12:=RE.binds (ps:=["_law_cell", "_law_many"]) fun _ _ _ _ _ _ us hl=>by
  obtain ⟨_,_,rfl⟩:=pq hl
  rfl
 have RF:=eU (st:=rN) Im Io zi
 have b13:=RF.binds (ps:=["_law_script", "_law_start", "_law_things", "_law_askers"]) fun _ _ _ _ _ _ us hl=>by
  obtain ⟨_,_,_,_,rfl⟩:=us4 hl
  rfl
 have RG:=eU (st:=rQ) Iq Ir zj
 have b14:=RG.binds (ps:=["_law_base", "_law_at", "_law_k"]) fun _ _ _ _ _ _ us hl=>by
  obtain ⟨_,_,_,rfl⟩:=HM hl
  rfl
 have RH:=eU (st:=rO) Iv Iw zk
 have b15:=RH.binds (ps:=["_law_cell", "_law_many"]) fun _ _ _ _ _ _ us hl=>by
  obtain ⟨_,_,rfl⟩:=pq hl
  rfl
 have RJ:=eU (st:=pB) Iz c16 zm
 have b16:=RJ.binds (ps:=["_law_e"]) fun _ _ _ _ _ _ us hl=>by
  obtain ⟨_,rfl⟩:=lb hl
  rfl
 have RK:=eU (st:=pF) IB IC zo
 have b17:=RK.binds (ps:=["_law_case", "_law_fault", "_law_cell"]) fun _ _ _ _ _ _ us hl=>by
  obtain ⟨_,_,_,rfl⟩:=HM hl
  rfl
 have RL:=eU (st:=rU) IG IH zp
 have b18:=RL.binds (ps:=["_law_case"]) fun _ _ _ _ _ _ us hl=>by
  obtain ⟨_,rfl⟩:=lb hl
  rfl
 have RM:=eU (st:=rL) IJ IK zq
 have b19:=RM.binds (ps:=["_law_case"]) fun _ _ _ _ _ _ us hl=>by
  obtain ⟨_,rfl⟩:=lb hl
  rfl
 have RN:=eU (st:=rV) IL IM zr
 have b20:=RN.binds (ps:=["_law_lines_here", "_law_way", "_law_cell"]) fun _ _ _ _ _ _ us hl=>by
  obtain ⟨_,_,_,rfl⟩:=HM hl
  rfl
 have RO:=eU (st:=lg) IQ IT zt
 have b21:=RO.binds (ps:=["_law_text"]) fun _ _ _ _ _ _ us hl=>by
  obtain ⟨_,rfl⟩:=lb hl
  rfl
 have F22:=eU (st:=kv) IV IW IY
 refine ⟨fnOf "law" "law" (cJ kv) (bR kv) (aD kv) .none O8 O9 Pa O7 FH Pb,fun s v=>.of_eq rfl,fun base _ _=>?_⟩
 have K1:=fJ base l w X G (Sl (k:=0) F1 T ) a1 k1 b1
 have K2:=fJ base l w X G (RV (k:=1) F2 T ) a2 k2 b2
 have KX2:=Kn.mk (base:=base) (P:=l.prog) (w:=w) (RQ (k:=0) F2 T U (OIT base) bIT (OIW base) bIW) (mg_of X G a2) k2 b2
 have K3:=fJ base l w X G (S8 (k:=1) F3 T K2) a3 k3 b3
 have KX3:=Kn.mk (base:=base) (P:=l.prog) (w:=w) (SU (k:=0) F3 T U KX2) (mg_of X G a3) k3 b3
 have K4:=fJ base l w X G (TH (k:=1) F4 T ) a4 k4 b4
 have K5:=fJ base l w X G (Ta (k:=0) F5 T K1) a5 k5 b5
 have K6:=fJ base l w X G (R3 (k:=0) F6 T K4 K5) a6 k6 b6
 have KX6:=Kn.mk (base:=base) (P:=l.prog) (w:=w) (RX (k:=0) F6 T U K4 K5) (mg_of X G a6) k6 b6
 have K7:=fJ base l w X G (RY (k:=2) F7 T ) a7 k7 b7
 have KX7:=Kn.mk (base:=base) (P:=l.prog) (w:=w) (RR (k:=2) F7 T U) (mg_of X G a7) k7 b7
 have K8:=fJ base l w X G (Sn (k:=2) F8 T ) a8 k8 b8
 have KX8:=Kn.mk (base:=base) (P:=l.prog) (w:=w) (R4 (k:=2) F8 T U) (mg_of X G a8) k8 b8
 have K9:=fJ base l w X G (Sq (k:=0) F9 T K3 K6 K7 K8) a9 k9 b9
 have KX9:=Kn.mk (base:=base) (P:=l.prog) (w:=w) (R5 (k:=0) F9 T U K6 K7 K8 KX3 KX6 KX7 KX8) (mg_of X G a9) k9 b9
 have K10:=fJ base l w X G (Ss (k:=0) Jm T K9) j9 wq RC
 have abe:=Kn.mk (base:=base) (P:=l.prog) (w:=w) (R7 (k:=0) Jm T U KX9) (mg_of X G j9) wq RC
 have RP:=fJ base l w X G (R0 (k:=5) RD T ) Ie zg b11
 have K12:=fJ base l w X G (Sw (k:=5) RE T ) Ii zh b12
 have K13:=fJ base l w X G (Sy (k:=5) RF T RP K12) Il zi b13
 have K14:=fJ base l w X G (S0 (k:=5) RG T ) Ip zj b14
 have K15:=fJ base l w X G (Sz (k:=5) RH T K14) Iu zk b15
 have K16:=Hj.mk (base:=base) (P:=l.prog) (w:=w) (RW RJ T U) (mg_of X G Iy) zm b16
 have K17:=fJ base l w X G (R8 (k:=6) RK T ) IA zo b17
 have K18:=fJ base l w X G (Td (k:=6) RL T ) IE zp b18
 have K19:=fJ base l w X G (Sv (k:=6) RM T ) II zq b19
 have K20:=fJ base l w X G (Te (k:=6) RN T ) gY zr b20
 have K21:=fJ base l w X G (SX (k:=0) RO T U K10 abe K16) IP zt b21
 exact W8 (XR (k:=0) F22 T RP K13 K15 K17 K18 K19 K20 K21)
theorem walk {l:PySem.W.OpenLaw}{q:Program}{loose:List Str}{XP:(Str->Option Value)->Heap->Prop}{YP:World->Heap->Prop}{d:DefRec}{K:Params->Frag}(hn:l.most=some 63)(vR:d.params.defaults=[])(hY:∀ (w:World) (h:Heap),YP w h->(K w.params).In h)(F:∀ (w:World) (mg:Str->Option Value) (fa:Addr) (h:Heap),(K w.params).In h->h.Ns mainGlobals mg->mg d.name=some (.ref fa) ->
   ∃ fd:FuncData,(∀ (s:Shared) (u:Value),BindsTo s fd ⟨[u],[]⟩ [("_law_script",u)])/\∀ base:Heap,(K w.params).In base->base.Ns mainGlobals mg->bc l.prog w (K w.params) mg base aG 8 fa fd ["_law_script"] (xS (K w.params))) :
  PySem.W.WalkO q loose XP YP l.row.toRowW d [] (fun f vs=>PySem.call f vs) :=
 L2.VP (n:=63) (k:=8) (x := "_law_script") (CX:=fun _=>aG) (sp:=fun w=>xS (K w.params)) hn (by decide) vR ⟨rfl,by decide,by decide⟩ hY F (fun _ _ a ns hl _ hS=>⟨a,ns,rfl,hS,hl,fun _=>rfl⟩) fun _ _ _ _ _ z=>z
end bI
open PySem PySem.W PyProof.Rows
set_option maxRecDepth 100000 in
set_option maxHeartbeats 0 in
theorem PySem.Challenge.cw_lotmeal_k61_tables_no_text_holds : PySem.Challenge.rw_lotmeal_k61_tables_no_text.Holds := by
 w_on;o_law
 refine holds_open (q:=iV.hV) (loose:=[]) (Xt:=iV.hX) (XP:=XL iV.hV []) (Yf:=(kHook iV.hK iV.hA iV.xJ).obs) (Ya:=(kHook iV.hK iV.hA iV.xJ).val) (YP:=(kHook iV.hK iV.hA iV.xJ).says) iV.hL (Hook.of _) (Hook.keeps _) (fun s e=>xl_of s (Bool.and_eq_true_iff.mp e).1) XL.keeps (by rfl) (by rfl) (by rfl) (fun s e=>recFacts_of (Bool.and_eq_true_iff.mp e).2) (by rfl) (by first | assumption | decide +kernel) (by decide +kernel) ⟨rfl,rfl,rfl,rfl,rfl,by decide +kernel⟩ ?hw ?hc
 case hw=>w_witness2
 k_fill
 refine bI.walk (l:=PySem.Challenge.rw_lotmeal_k61_tables_no_text) rfl rfl (fun w h Y=>PySem.W.kIn_of Y) ?F
 case F =>
  intro w mg fa h KX G vS
  refine' bI.all_mk KX G vS ?a1 ?l1 ?c1 ?k1 ?a2 ?l2 ?c2 ?k2 ?a3 ?l3 ?c3 ?k3 ?a4 ?l4 ?c4 ?k4 ?a5 ?l5 ?c5 ?k5 ?a6 ?l6 ?c6 ?k6 ?a7 ?l7 ?c7 ?k7 ?a8 ?l8 ?c8 ?k8 ?a9 ?l9 ?c9 ?k9 ?j9 ?l10 ?Ic ?wq ?Ie ?Ig ?Ih ?zg ?Ii ?Ij ?Ik ?zh ?Il ?Im ?Io ?zi ?Ip ?Iq ?Ir ?zj ?Iu ?Iv ?Iw ?zk ?Iy ?Iz ?c16 ?zm ?IA ?IB ?IC ?zo ?IE ?IG ?IH ?zp ?II ?IJ ?IK ?zq ?gY ?IL ?IM ?zr ?IP ?IQ ?IT ?zt ?IU ?IV ?IW ?IY ?Bz ?EX ?Ep ?Er ?DW ?EY ?EZ ?DX ?E1 ?BC ?E2 ?E3 ?E4 ?BA ?ux ?uh ?sN ?rH ?uy ?ui ?ud ?rJ ?BV ?rR ?rZ ?rS ?sd ?pZ ?mH ?uo ?uz ?uq ?sk ?so ?uV ?uA ?IZ ?Ja ?Jb ?zu ?zv ?zx ?zy ?mx ?my ?ur ?uB ?uv ?nS ?uF ?uG ?Jc ?FI ?Jd ?Je ?Jf ?FJ ?Jg ?FK ?FL ?FN ?Jh ?FO ?Ji ?Jj ?Jk ?FP ?Jl ?FQ ?FR ?FT ?BW ?BD ?BE ?BF ?BG ?BH ?BI ?BX ?zJ ?zB ?zK ?zL ?Av ?zC ?zZ ?zD ?zE ?z5 ?z6 ?Aw ?zM ?CG ?BZ ?B5 ?B6 ?B7 ?B8 ?B9 ?CH ?z7 ?zN ?z8 ?z9 ?A3 ?zO ?Ax ?zP ?zQ ?Ay ?Az ?A4 ?Aa ?Ca ?BJ ?BK ?BL ?BM ?BO ?BP ?Cb ?zR ?zF ?zS ?zT ?AA ?zG ?Ab ?zH ?zI ?Ac ?Ad ?AB ?zU ?CI ?Cd ?Ce ?Cg ?Ci ?Cj ?Ck ?CJ ?Ae ?zV ?Af ?Ag ?A5 ?zW ?AD ?zX ?zY ?AF ?AG ?A6 ?Ah ?DY ?Dq ?Dr ?Ds ?Dt ?Du ?Dw ?DZ ?A7 ?AH ?A8 ?A9 ?Bv ?AI ?Bk ?AJ ?AK ?Bl ?Bm ?Bw ?Ba ?Dx ?CK ?CL ?CM ?CN ?CO ?CP ?Dy ?AO ?Ai ?AQ ?AR ?Bn ?Aj ?Bb ?Ak ?Al ?Bc ?Bd ?Bo ?AU ?Dz ?CQ ?CT ?CU ?CV ?CW ?CY ?DA ?AV ?Am ?AW ?AX ?Bp ?An ?Be ?Ao ?Ap ?Bf ?Bg ?Bq ?AY ?DB ?CZ ?C0 ?C1 ?C2 ?C3 ?C4 ?DC ?AZ ?Aq ?A0 ?A1 ?Br ?Ar ?Bh ?As ?Au ?Bi ?Bj ?Bt ?A2
  (case a1=>k_is)
  (case l1=>k_is)
  (case c1=>k_is)
  (case k1=>k_is)
  (case a2=>k_is)
  (case l2=>k_is)
  (case c2=>k_is)
  (case k2=>k_is)
  (case a3=>k_is)
  (case l3=>k_is)
  (case c3=>k_is)
  (case k3=>k_is)
  (case a4=>k_is)
  (case l4=>k_is)
  (case c4=>k_is)
  (case k4=>k_is)
  (case a5=>k_is)
  (case l5=>k_is)
  (case c5=>k_is)
  (case k5=>k_is)
  (case a6=>k_is)
  (case l6=>k_is)
  (case c6=>k_is)
  (case k6=>k_is)
  (case a7=>k_is)
  (case l7=>k_is)
  (case c7=>k_is)
  (case k7=>k_is)
  (case a8=>k_is)
  (case l8=>k_is)
  (case c8=>k_is)
  (case k8=>k_is)
  (case a9=>k_is)
  (case l9=>k_is)
  (case c9=>k_is)
  (case k9=>k_is)
  (case j9=>k_is)
  (case l10=>k_is)
  (case Ic=>k_is)
  (case wq=>k_is)
  (case Ie=>k_is)
  (case Ig=>k_is)
  (case Ih=>k_is)
  (case zg=>k_is)
  (case Ii=>k_is)
  (case Ij=>k_is)
  (case Ik=>k_is)
  (case zh=>k_is)
  (case Il=>k_is)
  (case Im=>k_is)
  (case Io=>k_is)
  (case zi=>k_is)
  (case Ip=>k_is)
  (case Iq=>k_is)
  (case Ir=>k_is)
  (case zj=>k_is)
  (case Iu=>k_is)
  (case Iv=>k_is)
  (case Iw=>k_is)
  (case zk=>k_is)
  (case Iy=>k_is)
  (case Iz=>k_is)
  (case c16=>k_is)
  (case zm=>k_is)
  (case IA=>k_is)
  (case IB=>k_is)
  (case IC=>k_is)
  (case zo=>k_is)
  (case IE=>k_is)
  (case IG=>k_is)
  (case IH=>k_is)
  (case zp=>k_is)
  (case II=>k_is)
  (case IJ=>k_is)
  (case IK=>k_is)
  (case zq=>k_is)
  (case gY=>k_is)
  (case IL=>k_is)
  (case IM=>k_is)
  (case zr=>k_is)
  (case IP=>k_is)
  (case IQ=>k_is)
  (case IT=>k_is)
  (case zt=>k_is)
  (case IU=>k_is)
  (case IV=>k_is)
  (case IW=>k_is)
  (case IY=>k_is)
  (case Bz=>k_is)
  (case EX=>k_is)
  (case Ep=>k_is)
  (case Er=>k_is)
  (case DW=>k_is)
  (case EY=>k_is)
  (case EZ=>k_is)
  (case DX=>k_is)
  (case E1=>k_is)
  (case BC=>k_is)
  (case E2=>k_is)
  (case E3=>k_is)
  (case E4=>k_is)
  (case BA=>k_is)
  (case ux=>k_is)
  (case uh=>k_is)
  (case sN=>k_is)
  (case rH=>k_is)
  (case uy=>k_is)
  (case ui=>k_is)
  (case ud=>k_is)
  (case rJ=>k_is)
  (case BV=>k_is)
  (case rR=>k_is)
  (case rZ=>k_is)
  (case rS=>k_is)
  (case sd=>k_is)
  (case pZ=>k_is)
  (case mH=>k_is)
  (case uo=>k_is)
  (case uz=>k_is)
  (case uq=>k_is)
  (case sk=>k_is)
  (case so=>k_is)
  (case uV=>k_is)
  (case uA=>k_is)
  (case IZ=>k_is)
  (case Ja=>k_is)
  (case Jb=>k_is)
  (case zu=>k_exc)
  (case zv=>k_is)
  (case zx=>k_is)
  (case zy=>k_is)
  (case mx=>k_is)
  (case my=>k_is)
  (case ur=>k_exc)
  (case uB=>k_exc)
  (case uv=>k_exc)
  (case nS=>k_exc)
  (case uF=>k_exc)
  (case uG=>k_exc)
  (case Jc=>k_is)
  (case FI=>k_is)
  (case Jd=>k_is)
  (case Je=>k_is)
  (case Jf=>k_is)
  (case FJ=>k_is)
  (case Jg=>k_is)
  (case FK=>k_is)
  (case FL=>k_is)
  (case FN=>k_is)
  (case Jh=>k_is)
  (case FO=>k_is)
  (case Ji=>k_is)
  (case Jj=>k_is)
  (case Jk=>k_is)
  (case FP=>k_is)
  (case Jl=>k_is)
  (case FQ=>k_is)
  (case FR=>k_is)
  (case FT=>k_is)
  (case BW=>k_is)
  (case BD=>k_is)
  (case BE=>k_is)
  (case BF=>k_is)
  (case BG=>k_is)
  (case BH=>k_is)
  (case BI=>k_is)
  (case BX=>kit_is)
  (case zJ=>kit_is)
  (case zB=>kit_is)
  (case zK=>kit_is)
  (case zL=>kit_is)
  (case Av=>kit_is)
  (case zC=>kit_is)
  (case zZ=>kit_is)
  (case zD=>kit_is)
  (case zE=>kit_is)
  (case z5=>kit_is)
  (case z6=>kit_is)
  (case Aw=>kit_is)
  (case zM=>kit_is)
  (case CG=>k_is)
  (case BZ=>k_is)
  (case B5=>k_is)
  (case B6=>k_is)
  (case B7=>k_is)
  (case B8=>k_is)
  (case B9=>k_is)
  (case CH=>kit_is)
  (case z7=>kit_is)
  (case zN=>kit_is)
  (case z8=>kit_is)
  (case z9=>kit_is)
  (case A3=>kit_is)
  (case zO=>kit_is)
  (case Ax=>kit_is)
  (case zP=>kit_is)
  (case zQ=>kit_is)
  (case Ay=>kit_is)
  (case Az=>kit_is)
  (case A4=>kit_is)
  (case Aa=>kit_is)
  (case Ca=>k_is)
  (case BJ=>k_is)
  (case BK=>k_is)
  (case BL=>k_is)
  (case BM=>k_is)
  (case BO=>k_is)
  (case BP=>k_is)
  (case Cb=>kit_is)
  (case zR=>kit_is)
  (case zF=>kit_is)
  (case zS=>kit_is)
  (case zT=>kit_is)
  (case AA=>kit_is)
  (case zG=>kit_is)
  (case Ab=>kit_is)
  (case zH=>kit_is)
  (case zI=>kit_is)
  (case Ac=>kit_is)
  (case Ad=>kit_is)
  (case AB=>kit_is)
  (case zU=>kit_is)
  (case CI=>k_is)
  (case Cd=>k_is)
  (case Ce=>k_is)
  (case Cg=>k_is)
  (case Ci=>k_is)
  (case Cj=>k_is)
  (case Ck=>k_is)
  (case CJ=>kit_is)
  (case Ae=>kit_is)
  (case zV=>kit_is)
  (case Af=>kit_is)
  (case Ag=>kit_is)
  (case A5=>kit_is)
  (case zW=>kit_is)
  (case AD=>kit_is)
  (case zX=>kit_is)
  (case zY=>kit_is)
  (case AF=>kit_is)
  (case AG=>kit_is)
  (case A6=>kit_is)
  (case Ah=>kit_is)
  (case DY=>k_is)
  (case Dq=>k_is)
  (case Dr=>k_is)
  (case Ds=>k_is)
  (case Dt=>k_is)
  (case Du=>k_is)
  (case Dw=>k_is)
  (case DZ=>kit_is)
  (case A7=>kit_is)
  (case AH=>kit_is)
  (case A8=>kit_is)
  (case A9=>kit_is)
  (case Bv=>kit_is)
  (case AI=>kit_is)
  (case Bk=>kit_is)
  (case AJ=>kit_is)
  (case AK=>kit_is)
  (case Bl=>kit_is)
  (case Bm=>kit_is)
  (case Bw=>kit_is)
  (case Ba=>kit_is)
  (case Dx=>k_is)
  (case CK=>k_is)
  (case CL=>k_is)
  (case CM=>k_is)
  (case CN=>k_is)
  (case CO=>k_is)
  (case CP=>k_is)
  (case Dy=>kit_is)
  (case AO=>kit_is)
  (case Ai=>kit_is)
  (case AQ=>kit_is)
  (case AR=>kit_is)
  (case Bn=>kit_is)
  (case Aj=>kit_is)
  (case Bb=>kit_is)
  (case Ak=>kit_is)
  (case Al=>kit_is)
  (case Bc=>kit_is)
  (case Bd=>kit_is)
  (case Bo=>kit_is)
  (case AU=>kit_is)
  (case Dz=>k_is)
  (case CQ=>k_is)
  (case CT=>k_is)
  (case CU=>k_is)
  (case CV=>k_is)
  (case CW=>k_is)
  (case CY=>k_is)
  (case DA=>kit_is)
  (case AV=>kit_is)
  (case Am=>kit_is)
  (case AW=>kit_is)
  (case AX=>kit_is)
  (case Bp=>kit_is)
  (case An=>kit_is)
  (case Be=>kit_is)
  (case Ao=>kit_is)
  (case Ap=>kit_is)
  (case Bf=>kit_is)
  (case Bg=>kit_is)
  (case Bq=>kit_is)
  (case AY=>kit_is)
  (case DB=>k_is)
  (case CZ=>k_is)
  (case C0=>k_is)
  (case C1=>k_is)
  (case C2=>k_is)
  (case C3=>k_is)
  (case C4=>k_is)
  (case DC=>kit_is)
  (case AZ=>kit_is)
  (case Aq=>kit_is)
  (case A0=>kit_is)
  (case A1=>kit_is)
  (case Br=>kit_is)
  (case Ar=>kit_is)
  (case Bh=>kit_is)
  (case As=>kit_is)
  (case Au=>kit_is)
  (case Bi=>kit_is)
  (case Bj=>kit_is)
  (case Bt=>kit_is)
  (case A2=>kit_is)
#print axioms PySem.Challenge.cw_lotmeal_k61_tables_no_text_holds
