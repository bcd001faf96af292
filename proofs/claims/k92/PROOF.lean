import PyProof.Rows.All
import Lean
import PyProof.EqAt
import PyProof.EqKinds
import PyProof.TupleCall
import PyProof.NeKinds
import PyProof.ZipIter
import PyProof.WalksEnum
import PyProof.CompUse
import PyProof.ListRange
import PyProof.Rows.SetFrom
import PyProof.Rows.SortWalk
import PyProof.Rows.SeqMore2
import PyProof.SetRoads
import KE.KRevIter
import PyProof.WalksMore
import PyProof.AutoRange
import PyProof.ListNew
import PyProof.Wp
import PyProof.Logic
import PyProof.StationsW
import PyProof.ExcClass2
import OpenK.KGet
import PyProof.Rows.SortRunsK
import PyProof.Rows.SortShellK
import KE.KDictSum
import PyProof.DictTruth
import PyProof.RangeIter
import PyProof.RaisesMany
import PyProof.AutoListH
import PySem.Challenge.RW_lotmeal_k92_whole_from_shares_to_tickets
import KE.KIsAll
import KE.KTurns
import KE.KItem
import KE.LcSums
import KE.IntBitsLaws
set_option Elab.async false
set_option linter.all false
set_option maxRecDepth 100000
set_option maxHeartbeats 4000000
abbrev aa:=@List.length_map
abbrev ab:=@List.getElem?_eq_getElem
abbrev ba:=@List.getD_eq_getElem?_getD
abbrev br:=@Nat.le_refl
abbrev ee:=@List.getElem?_map
abbrev ff:=@PySem.wpAny_bind
abbrev gr:=@List.mem_cons
abbrev gz:=@List.map_map
abbrev ij:=@List.mem_append_right
abbrev ir:=@List.getElem?_eq_some_iff
abbrev i4:=@List.mem_map
abbrev i8:=@List.map_cons
abbrev lp:=@if_pos
abbrev ma:=@List.map_congr_left
abbrev mf:=@if_neg
abbrev mT:=@List.mem_of_getElem?
abbrev nt:=@List.getElem?_eq_none
abbrev nv:=@List.mem_append_left
abbrev qr:=@List.length_append
abbrev rf:=@List.mem_singleton
abbrev r8:=@List.nodup_append
abbrev tw:=@decide_eq_false
abbrev ue:=@List.sum_cons
abbrev uu:=@List.size_toArray
abbrev u4:=@decide_eq_true
abbrev wb:=@List.mem_append
abbrev xp:=@PySem.wpAny_pure
abbrev xw:=@Option.some.inj
abbrev xy:=@PySem.Heap.lt_size
abbrev zd:=@Nat.le_trans
abbrev zw:=@Int.toNat_natCast
abbrev AE:=@Bool.false_ne_true
abbrev AL:=@Int.mul_le_mul_of_nonneg_right
abbrev AM:=@List.mem_filter
abbrev AN:=@List.length_cons
abbrev AS:=@Nat.lt_of_lt_of_le
abbrev BB:=@List.nodup_cons
abbrev BN:=@Int.mul_right_comm
abbrev BS:=@Bool.and_eq_true
abbrev BY:=@List.getElem?_set_ne
abbrev Cc:=@PySem.Heap.get?_push_of_some
abbrev Cf:=@List.length_range
abbrev Cn:=@of_decide_eq_true
abbrev Co:=@Nat.ne_of_lt
abbrev Cs:=@List.map_append
abbrev CS:=@List.getElem?_range
abbrev DD:=@List.lookup_cons
abbrev DO:=@Nat.zero_le
abbrev EM:=@List.length_singleton
abbrev EN:=@Int.eq_of_mul_eq_mul_right
abbrev EO:=@PySem.Heap.get?_push_size
abbrev ES:=@Int.mul_assoc
abbrev ET:=@List.length_set
abbrev EU:=@Nat.lt_of_le_of_lt
abbrev FF:=@List.append_nil
abbrev GG:=@Int.mul_le_mul_of_nonneg_left
abbrev HT:=@List.drop_eq_getElem_cons
abbrev ID:=@List.append_assoc
abbrev IF:=@List.ext_getElem?
abbrev IS:=@List.length_filter_le
abbrev JJ:=@Nat.lt_or_ge
abbrev Lm:=@List.filter_cons
abbrev Lo:=@List.countP_cons
abbrev Lu:=@List.getElem?_set
abbrev LB:=@Int.mul_ediv_cancel_left
abbrev LF:=@Int.emod_lt_of_pos
abbrev LG:=@Int.zero_mul
abbrev LH:=@List.getElem?_append_right
abbrev LM:=@List.all_eq_true
abbrev LP:=@PyProof.Rows.wpS_bind
abbrev LS:=@List.getElem?_set_self
abbrev Mc:=@List.take_of_length_le
abbrev Me:=@Int.mul_comm
abbrev Mn:=@List.take_length
abbrev MW:=@List.getElem_mem
abbrev Na:=@decide_eq_true_iff
abbrev Nd:=@Int.mul_nonneg
abbrev Nl:=@Int.emod_nonneg
abbrev NG:=@List.length_take
abbrev NH:=@Nat.add_le_add_left
abbrev NJ:=@Int.mul_pos
abbrev NL:=@PySem.wpAny_truthy_bool
abbrev NO:=@PySem.W.mg_none_of
abbrev Of:=@PySem.F.slot_dict_keyiterator_next
abbrev OE:=@PyProof.Rows.callWith_type1
abbrev OF:=@PySem.F.plainAttrs_list
abbrev OK:=@List.count_cons
abbrev ON:=@PyProof.Rows.wpS_pure
abbrev OP:=@PyProof.Rows.KeyOrd.kle_refl
abbrev OR:=@beq_iff_eq
abbrev Pc:=@beq_eq_false_iff_ne
abbrev Pd:=@List.replicate_succ
abbrev Pe:=@List.length_pos_iff
abbrev Pf:=@List.any_cons
abbrev Po:=@Nat.le_of_ble_eq_true
abbrev PM:=@Array.getElem?_toList
abbrev RI:=@List.getElem?_zipWith
abbrev Sk:=@List.not_mem_nil
abbrev Sm:=@List.any_eq_true
abbrev SI:=@Int.add_mul
abbrev SO:=@PySem.wpAny_typeNameOfWhole_keyiter
abbrev TM:=@List.getElem_map
abbrev US:=@Int.dvd_trans
abbrev VT:=@List.mem_range
abbrev WA:=@List.set_set
abbrev WE:=@Int.natAbs_mul
abbrev WI:=@Array.length_toList
abbrev WJ:=@Bool.eq_iff_iff
abbrev WS:=@List.nil_append
abbrev YA:=@Int.mul_lt_mul_of_pos_right
abbrev YE:=@Int.le_refl
abbrev YI:=@Nat.lt_irrefl
abbrev YO:=@Bool.false_eq_true
abbrev YU:=@Int.natAbs_dvd_natAbs
abbrev Zl:=@List.concat_eq_append
abbrev Zp:=@Int.zero_add
abbrev Zs:=@Int.lt_or_eq_of_le
abbrev aaa:=@Array.getElem?_eq_getElem
abbrev aab:=@Array.toArray_toList
abbrev aba:=@List.mem_of_mem_take
abbrev abc:=@PySem.wpAny_newObj_type
abbrev adm:=@PySem.wpAny_passesOwn
abbrev aiX:=@Nat.le_of_succ_le
abbrev aiY:=@Nat.lt_succ_of_lt
abbrev aiZ:=@PySem.PassesOwn.never
abbrev ai0:=@List.find?_cons
abbrev ai1:=@PySem.Heap.get?_push_ne
abbrev ai2:=@List.pairwise_map
abbrev ai3:=@PySem.wpAny_typeNameOf_keyiter
abbrev ai4:=@List.sum_append
abbrev ai5:=@List.map_nil
abbrev ai6:=@Int.mul_one
abbrev ai7:=@PySem.mem_of_lookup
abbrev ai8:=@List.filter_eq_self
abbrev ai9:=@List.getElem_of_mem
abbrev aja:=@Int.ediv_le_self
abbrev ajb:=@Nat.le_add_right
abbrev ajc:=@Int.gcd_pos_of_ne_zero_right
abbrev ajd:=@List.pairwise_cons
abbrev aje:=@List.countP_eq_length_filter
abbrev ajf:=@Int.ediv_nonneg
abbrev ajg:=@Nat.not_lt_zero
abbrev ajh:=@List.Perm.append_left
abbrev aji:=@Int.lt_or_le
abbrev ajj:=@List.length_nil
abbrev ajk:=@List.eq_nil_or_concat
abbrev ajl:=@List.countP_mono_left
abbrev ajm:=@PySem.wpAny_holding
abbrev ajn:=@List.all_cons
abbrev ajo:=@List.flatten_cons
abbrev ajp:=@Int.gcd_dvd_right
abbrev ajq:=@Int.le_of_dvd
abbrev ajr:=@List.foldl_append
abbrev ajs:=@List.mem_cons_of_mem
abbrev ajt:=@List.count_le_length
abbrev aju:=@List.getElem?_append_left
abbrev ajv:=@Bool.and_false
abbrev ajw:=@List.mem_or_eq_of_mem_set
abbrev ajx:=@Int.gcd_dvd_left
abbrev ajy:=@PySem.wpAny_call_entry
abbrev ajz:=@List.cons_append
abbrev ajA:=@List.drop_length
abbrev ajB:=@List.length_zipWith
abbrev ajC:=@PySem.wpAny_mono
abbrev ajD:=@Option.isSome_iff_exists
abbrev ajE:=@Nat.min_self
abbrev ajF:=@PySem.F.slot_list_append
abbrev ajG:=@PySem.F.type_list_append
abbrev ajH:=@List.getElem?_replicate
abbrev ajI:=@PySem.pushCells_keeps
abbrev ajJ:=@PySem.F.slot_list_count
abbrev ajK:=@PySem.F.type_list_count
abbrev ajL:=@Int.natCast_mul
abbrev ajM:=@List.filter_map
abbrev ajN:=@PySem.tupleKind_room_in1
abbrev ajO:=@of_decide_eq_false
abbrev ajP:=@List.length_eq_zero_iff
abbrev ajQ:=@Int.natCast_add
abbrev ajR:=@Int.lt_of_le_of_lt
abbrev ajS:=@Option.map_eq_some_iff
abbrev ajT:=@List.range_succ_eq_map
abbrev ajU:=@List.Perm.append_right
abbrev ajV:=@List.drop_of_length_le
abbrev ajW:=@List.filter_eq_nil_iff
abbrev ajX:=@List.any_eq_false
abbrev ajY:=@Int.dvd_mul_right
abbrev ajZ:=@PyProof.Rows.KeyOrd.kle_of_klt
abbrev aj0:=@Int.dvd_natAbs
abbrev aj1:=@Nat.ne_of_gt
abbrev aj2:=@List.length_replicate
abbrev aj3:=@List.perm_append_comm
abbrev aj4:=@PySem.F.slot_dict_get
abbrev aj5:=@List.map_set
abbrev aj6:=@PyProof.Rows.wpS_forRange
abbrev aj7:=@PySem.wpAny_isOneOf_keyiter
abbrev aj8:=@List.map_id'
abbrev aj9:=@List.take_append_drop
abbrev aka:=@Int.le_trans
abbrev akb:=@List.countP_le_length
abbrev akc:=@PySem.W.kia_one
abbrev akd:=@Nat.lt_succ_self
abbrev ake:=@Option.getD_some
abbrev akf:=@PyProof.Rows.KeyOrd.kle_trans
abbrev akg:=@PySem.Heap.size_update
abbrev akh:=@decide_eq_decide
abbrev aki:=@List.eq_nil_of_length_eq_zero
abbrev akj:=@List.ext_getElem
abbrev akk:=@List.mem_erase_of_ne
abbrev akl:=@List.filterMap_cons
abbrev akm:=@PySem.wpAny_execs_nil
abbrev akn:=@List.foldl_cons
abbrev ako:=@List.range_succ
abbrev akp:=@PySem.Heap.SameBut.update
abbrev akq:=@List.mem_map_of_mem
abbrev akr:=@Int.lt_of_mul_lt_mul_right
abbrev aks:=@Array.perm_iff_toList_perm
abbrev akt:=@List.nodup_iff_pairwise_ne
abbrev aku:=@List.mem_cons_self
abbrev akv:=@PySem.Calls.spliced_cons
abbrev akw:=@PySem.wpAny_Call_Name_kw
abbrev akx:=@List.contains_cons
abbrev aky:=@List.set_cons_succ
abbrev akz:=@List.filter_append
abbrev akA:=@Nat.zero_add
abbrev akB:=@List.set_cons_zero
abbrev akC:=@List.zip_cons_cons
abbrev akD:=@PyProof.Rows.pairsOf_size
abbrev akE:=@List.count_eq_zero
abbrev akF:=@Int.lt_trans
abbrev akG:=@List.sum_singleton
abbrev akH:=@Int.mul_zero
abbrev akI:=@PySem.Heap.size_push
abbrev akJ:=@List.take_zero
abbrev akK:=@PySem.wpAny_fieldsOf
abbrev akL:=@PySem.wpAny_pyIter_list
abbrev akM:=@PySem.W.kitx_list
abbrev akN:=@PySem.call_meets
abbrev akO:=@decide_eq_true_eq
abbrev akP:=@Bool.eq_false_iff
abbrev akQ:=@PyProof.Rows.wpS_modify
abbrev akR:=@PySem.wpAny_dictEntries
abbrev akS:=@List.filter_congr
abbrev akT:=@PySem.wpAny_standAt
abbrev akU:=@if_false
abbrev akV:=@or_false
abbrev akW:=@Int.one_mul
abbrev akX:=@Nat.succ_le_succ
abbrev akY:=@Int.dvd_mul_left
abbrev akZ:=@List.of_mem_zip
abbrev ak0:=@Bool.or_eq_true
abbrev ak1:=@List.all_map
abbrev ak2:=@List.forIn_cons
abbrev ak3:=@Int.dvd_refl
abbrev ak4:=@List.any_map
abbrev ak5:=@Nat.add_zero
abbrev ak6:=@Int.le_of_lt
abbrev ak7:=@List.countP_map
abbrev ak8:=@List.map_id
abbrev ak9:=@Int.sub_mul
open PySem.W (Frag codeIn fnOf keepIn kia_one mg_none_of mg_of nsIn)
abbrev LI:=List Int
abbrev LL:=List LI
namespace L2
open PySem PySem.W
section
variable {tb:String->Option Builtin}{p:Program}{w:World}{n₀:Nat}{ann:Option Value}
def uR (tb:String->Option Builtin)(p:Program)(w:World)(n₀:Nat)(ann:Option Value):Nat->SharedT->Thread->Option SharedT
 |0,_,_=>none
 |n+1,s,t=>match through t with
  |true=>some s
  |false=>match stepOk n₀ ann t with
   |false=>none
   |true=>match stepT (denote tb) p w s t with
    |some (s',t')=>uR tb p w n₀ ann n s' t'
    |none=>none
theorem Nr:∀ {n:Nat} {s s':SharedT} {t:Thread},uR tb p w n₀ ann n s t=some s'->topRun tb p w n₀ ann n s.abs t=some s'.abs
 |0,_,_,_,h=>by cases h
 |n+1,s,s',t,h=>by
  unfold uR at h;unfold topRun;cases ht:through t with
  |true=>rw[ht]at h;cases h;rfl
  |false =>
   rw[ht]at h;cases hk:stepOk n₀ ann t with
   |false=>rw[hk]at h;cases h
   |true =>
    rw[hk]at h;cases hs:stepT (denote tb) p w s t with
    |none=>rw[hs]at h;cases h
    |some r=>obtain⟨lW,aiQ⟩:=r;rw[hs]at h;rw[stepT_spec hs];exact Nr h
end
def treeOf (l:List Obj):Nat->Nat->Nat->BT
 |0,_,_=>.nil
 |f+1,a,b=>match l[b]? with
  |some o=>.node o (treeOf l f (2*a) (a+b)) (treeOf l f (2*a) (2*a+b))
  |none=>.nil
theorem Xg {p q:Program}{loose:List Str}{Xt:Shared->Bool}{α:Type}{Yf:Shared->α}{Ya:World->α}{N:Nat}{g0:Bool}{T₀:Params->BT}{n₀:Nat}{life:Life}{yr:Array GenState}{EI:Drawn}{EJ:Nat}{ann:Option Value}{M:Nat}(abP:∀ w:World,(fencedOpening treeTable p w N).map (fun s=>(s.heap,s.gens,s.drawn,s.toks))=some (absHeap (T₀ w.params) n₀ life,yr,EI,EJ))(size:∀ w:World,((absHeap (T₀ w.params) n₀ life).isNs mainGlobals&&yr.size==0,(absHeap (T₀ w.params) n₀ life).nsMap mainGlobals "__annotations__")=(true,ann))(run:∀ (w:World),(fun os=>(uR treeTable p w n₀ ann M ⟨T₀ w.params,n₀,life,yr,EI,EJ,os⟩ (topStub p)).map fun st=>((staticsOk (importedModules p.main.body) (absHeap (T₀ w.params) n₀ life) st.abs.heap&&namesBound p st.abs.heap&&gensDone st.abs&&laidKept (absHeap (T₀ w.params) n₀ life) st.abs.heap),openSeen q loose (importedModules p.main.body) Xt g0 st.abs,Yf st.abs))=fun _=>some (true,openGood q loose,Ya w))(le:Nat.ble M N=true):LeftO p q loose Xt Yf Ya N g0:=fun w=>by
 obtain⟨⟨h,gs,d,k,os⟩,e,e'⟩:=ajS.mp (abP w);obtain⟨rfl,rfl,rfl,rfl⟩:h=absHeap (T₀ w.params) n₀ life/\gs=yr/\d=EI/\k=EJ:=by simpa using e'
 obtain⟨z1,z3⟩:=Prod.mk.inj (size w);obtain⟨st,hr,hl⟩:=ajS.mp (congrFun (run w) os);obtain⟨l1,hl⟩:=Prod.mk.inj hl;obtain⟨l2,l3⟩:=Prod.mk.inj hl;have r:=topRun_mono (N-M) _ _ _ _ (Nr hr);rw[show M+(N-M)=N by have:=Po le;omega]at r;have t:topFrom treeTable p w N ⟨absHeap (T₀ w.params) n₀ life,gs,d,k,os⟩=some st.abs:=by
  unfold topFrom;dsimp only;rw[z1,absHeap_size,z3];have r':topRun treeTable p w n₀ ann N ⟨absHeap (T₀ w.params) n₀ life,gs,d,k,os⟩ (topStub p)=some st.abs:=r;rw[r'];show(match staticsOk (importedModules p.main.body) (absHeap (T₀ w.params) n₀ life) st.abs.heap&&namesBound p st.abs.heap&&gensDone st.abs&&laidKept (absHeap (T₀ w.params) n₀ life) st.abs.heap with | true=>_ | false=>_)=_;rw[l1]
 unfold openEnds;rw[e];show(topFrom treeTable p w N _).map _=_;rw[t];exact congrArg some (Prod.ext l2 l3)
noncomputable def oP (P:Params):BT:=treeOf (boot_heap P).objs.toList 12 1 0
theorem boot_abs (P:Params):absHeap (oP P) 11 {}=boot_heap P:=by kernel_rfl
theorem Xh (w:World):((absHeap (oP w.params) 11 {}).isNs mainGlobals&&(Array.mk []:Array GenState).size==0,(absHeap (oP w.params) 11 {}).nsMap mainGlobals "__annotations__")=(true,some (.ref 6)):=by kernel_rfl
noncomputable def mZ (p:Program) (w:World) (N:Nat) (os:OsState):Option SharedT:=uR treeTable p w 11 (some (.ref 6)) N ⟨oP w.params,11,{},Array.mk [],boot_drawn,boot_toks,os⟩ (topStub p)
noncomputable def uA (p:Program) (w:World) (st:SharedT):Bool:=staticsOk (importedModules p.main.body) (absHeap (oP w.params) 11 {}) st.abs.heap&&namesBound p st.abs.heap&&gensDone st.abs&&laidKept (absHeap (oP w.params) 11 {}) st.abs.heap
theorem Xi {p q:Program}{loose:List Str}{Xt:Shared->Bool}{α:Type}{Yf:Shared->α}{Ya:World->α}{N:Nat}{g0:Bool}(e:opening p=plainProg p.main.scope.names)(hN:Nat.ble 600 N=true)(f:∀ s,fenceModules? p s=some s)(r1:∀ w:World,(fun os=>(mZ p w N os).map fun st=>uA p w st)=fun _=>some true)(r2:∀ w:World,(fun os=>(mZ p w N os).map fun st=>openSeen q loose (importedModules p.main.body) Xt g0 st.abs)=fun _=>some (openGood q loose))(r3:∀ w:World,(fun os=>(mZ p w N os).map fun st=>Yf st.abs)=fun _=>some (Ya w)):LeftO p q loose Xt Yf Ya N g0 :=
 Xg (T₀:=oP) (n₀:=11) (life:={}) (ann:=some (.ref 6)) (fun w=>(boot_open e hN f w).trans (by rw[boot_abs])) Xh (fun w=>funext fun os=>by
  have a:=congrFun (r1 w) os;have b:=congrFun (r2 w) os;have c:=congrFun (r3 w) os;show(mZ p w N os).map (fun st=>(uA p w st,openSeen q loose (importedModules p.main.body) Xt g0 st.abs,Yf st.abs))=_;cases h:mZ p w N os with
  |none=>rw[h]at a;cases a
  |some st =>
   rw[h]at a b c;show some (uA p w st,openSeen q loose (importedModules p.main.body) Xt g0 st.abs,Yf st.abs)=_;have a':uA p w st=true:=xw a;have b':openSeen q loose (importedModules p.main.body) Xt g0 st.abs=openGood q loose:=xw b;have c':Yf st.abs=Ya w:=xw c;rw[a',b',c']) (by rw[Nat.ble_eq];exact br _)
def dA (s:Stmt):Arguments:=match s with
 | .FunctionDef _ a _ _ _ _ _ _ _ _=>a
 |_=>{ posonlyargs:=[],args:=[],vararg:=none,kwonlyargs:=[],kw_defaults:=[],kwarg:=none,defaults:=[] }
def dB (s:Stmt):List Stmt:=match s with
 | .FunctionDef _ _ b _ _ _ _ _ _ _=>b
 |_=>[]
def dS (s:Stmt):Scope:=match s with
 | .FunctionDef _ _ _ _ _ _ sc _ _ _=>sc
 |_=>{ kind:=.function,names:=[],isGenerator:=false,isCoroutine:=false }
def dM (s:Stmt)(j:Nat):Stmt:=match s with
 | .ClassDef _ _ _ b _ _ _ _ _ _ _=>b.getD j (.Pass ⟨0,0,0,0⟩)
 |_=>.Pass ⟨0,0,0,0⟩
def dE (P:Params)(x:Str)(n:Nat)(v:Value):DictEntry:=.mk (PyData.keyHash P x) (.str x n) v
def o0:Obj:=Obj.mk (.type "tuple") none (.seq #[] 0) #[]
def oT (x:Array Value):Obj:=Obj.mk (.type "tuple") none (.seq x 0) #[]
def oC (x:Array Value):Obj:=Obj.mk (.type "code") none (.fields x) #[]
def oD (n:Str)(a l k r x:Nat)(y z:Value)(v u:Nat):Obj:=oC #[.str n a,.str n (a+1),.str "/claim/cut.py" (a+2),.int l 0,.int k 0,.int 0 0,.int 0 0,.int 3 0,.ref r,.bool true,.int 181 0,.ref x,.none,y,z,.ref v,.int u 0,.int l 0,.str "/claim/cut.py" (u+1)]
def oF (n:Str)(s:Stmt)(d m c:Value):Obj:=Obj.mk (.type "function") none (.func (FuncData.mk n n (dA s) (.stmts (dB s)) (dS s) 3 [] d .none .none m none c .none 0)) #[]
end L2
namespace iM
open PySem PySem.W
abbrev pr:Program:=PySem.Challenge.rw_lotmeal_k92_whole_from_shares_to_tickets.row.prog
def tp (i:Nat):Stmt:=pr.main.body.getD i (.Pass ⟨0,0,0,0⟩)
noncomputable def hK:Params->Frag:=fun P =>
 (nat_lit 2,boot_o_2 P) ::
 (nat_lit 3,(Obj.mk (.type "dict") none (.dict #[(L2.dE P "__name__" 165 (.str "law_lotmeal_k92_whole_from_shares_to_tickets" 696)),(L2.dE P "__doc__" 166 .none),(L2.dE P "__package__" 167 .none),(L2.dE P "__loader__" 168 (.builtin "__main__.__loader__#opaque")),(L2.dE P "__spec__" 169 .none),(L2.dE P "__annotations__" 170 (.ref 6)),(L2.dE P "__builtins__" 171 (.ref 4)),(L2.dE P "__file__" 173 (.str "/claim/cut.py" 172)),(L2.dE P "__cached__" 174 .none),(L2.dE P "give_thing" 194 (.ref 19)),(L2.dE P "deal_out" 208 (.ref 26)),(L2.dE P "looked_for" 214 (.ref 31)),(L2.dE P "deal_of" 223 (.ref 38)),(L2.dE P "LotError" 243 (.ref 48)),(L2.dE P "NoNumber" 259 (.ref 61)),(L2.dE P "TooGreat" 275 (.ref 73)),(L2.dE P "NoAsker" 291 (.ref 85)),(L2.dE P "NoThing" 316 (.ref 104)),(L2.dE P "Twice" 341 (.ref 123)),(L2.dE P "NoShares" 357 (.ref 135)),(L2.dE P "NoTurns" 373 (.ref 147)),(L2.dE P "NoTicket" 398 (.ref 166)),(L2.dE P "is_whole" 407 (.ref 175)),(L2.dE P "common_part" 416 (.ref 182)),(L2.dE P "fraction" 426 (.ref 190)),(L2.dE P "plus" 434 (.ref 197)),(L2.dE P "minus" 442 (.ref 204)),(L2.dE P "times" 450 (.ref 211)),(L2.dE P "over" 458 (.ref 218)),(L2.dE P "under" 466 (.ref 225)),(L2.dE P "sum_of" 475 (.ref 232)),(L2.dE P "common_bottom" 484 (.ref 239)),(L2.dE P "least_of" 493 (.ref 246)),(L2.dE P "bottom_of_all" 499 (.ref 251)),(L2.dE P "parts_of" 507 (.ref 258)),(L2.dE P "MOST" 511 (.int 6 510)),(L2.dE P "MOST_COUNT" 513 (.int 9 512)),(L2.dE P "check_orders" 519 (.ref 263)),(L2.dE P "table_of" 525 (.ref 268)),(L2.dE P "full_order" 531 (.ref 273)),(L2.dE P "first_left" 537 (.ref 278)),(L2.dE P "dealt_of" 543 (.ref 283)),(L2.dE P "is_row" 549 (.ref 288)),(L2.dE P "are_shares" 555 (.ref 293)),(L2.dE P "weight_of" 563 (.ref 298)),(L2.dE P "shares_of" 569 (.ref 303)),(L2.dE P "spare_parts" 575 (.ref 308)),(L2.dE P "next_deal" 581 (.ref 313)),(L2.dE P "most_weight" 587 (.ref 318)),(L2.dE P "left_after" 593 (.ref 323)),(L2.dE P "mix_of" 599 (.ref 328)),(L2.dE P "next_length" 607 (.ref 333)),(L2.dE P "left_behind" 613 (.ref 338)),(L2.dE P "ended_things" 619 (.ref 343)),(L2.dE P "meal_steps" 625 (.ref 348)),(L2.dE P "eaten_by" 631 (.ref 353)),(L2.dE P "meal" 637 (.ref 358)),(L2.dE P "tickets" 645 (.ref 363)),(L2.dE P "deal_at" 657 (.ref 370)),(L2.dE P "MOST_TURNS" 661 (.int 5 660)),(L2.dE P "deal_by" 667 (.ref 375)),(L2.dE P "longer" 673 (.ref 380)),(L2.dE P "all_turns" 682 (.ref 387)),(L2.dE P "turn_mix" 688 (.ref 392)),(L2.dE P "turn_shares" 695 (.ref 399)),(L2.dE P "_law_cell_at" 705 (.ref 406)),(L2.dE P "_law_divisor" 713 (.ref 413)),(L2.dE P "_law_order" 719 (.ref 418)),(L2.dE P "_law_table" 733 (.ref 425)),(L2.dE P "_law_whole" 740 (.ref 432)),(L2.dE P "_law_is_weight" 747 (.ref 439)),(L2.dE P "_law_is_mix" 753 (.ref 444)),(L2.dE P "_law_tickets_told" 759 (.ref 449)),(L2.dE P "law" 765 (.ref 454))] 74) #[])) ::
 (nat_lit 15,L2.o0) ::
 (nat_lit 18,(L2.oD "give_thing" 189 2 5 15 16 .none .none 17 192)) ::
 (nat_lit 19,(L2.oF "give_thing" (tp 1) .none (.str "lotmeal.deals" 187) (.ref 18))) ::
 (nat_lit 20,L2.o0) ::
 (nat_lit 22,(L2.oT #[(.str "may" 198),(.str "must" 199),(.str "deal" 200),(.str "thing" 201),(.str "seen" 202),(.str "asker" 203),(.str "some" 204),(.str "had" 205)])) ::
 (nat_lit 23,L2.o0) ::
 (nat_lit 25,(L2.oD "deal_out" 195 13 5 20 21 (.ref 22) (.ref 23) 24 206)) ::
 (nat_lit 26,(L2.oF "deal_out" (tp 2) .none (.str "lotmeal.deals" 187) (.ref 25))) ::
 (nat_lit 27,L2.o0) ::
 (nat_lit 30,(L2.oD "looked_for" 209 22 3 27 28 .none .none 29 212)) ::
 (nat_lit 31,(L2.oF "looked_for" (tp 3) .none (.str "lotmeal.deals" 187) (.ref 30))) ::
 (nat_lit 32,L2.o0) ::
 (nat_lit 34,(L2.oT #[(.str "counts" 218),(.str "may" 219),(.str "must" 220)])) ::
 (nat_lit 35,L2.o0) ::
 (nat_lit 37,(L2.oD "deal_of" 215 35 3 32 33 (.ref 34) (.ref 35) 36 221)) ::
 (nat_lit 38,(L2.oF "deal_of" (tp 4) .none (.str "lotmeal.deals" 187) (.ref 37))) ::
 (nat_lit 39,(L2.oT #[(.type "ValueError")])) ::
 (nat_lit 46,L2.o0) ::
 (nat_lit 47,(Obj.mk (.type "dict") none (.dict #[(L2.dE P "__module__" 233 (.str "lotmeal.errors" 224)),(L2.dE P "__firstlineno__" 237 (.int 38 236)),(L2.dE P "__static_attributes__" 238 (.ref 46)),(L2.dE P "__weakref__" 240 (.ref 49)),(L2.dE P "__doc__" 241 .none)] 3) #[])) ::
 (nat_lit 48,(Obj.mk (.type "type") none (.cls (ClassData.mk "LotError" [(.type "ValueError")] [(.ref 48),(.type "ValueError"),(.type "Exception"),(.type "BaseException"),(.type "object")] 47 "LotError" true [] [(.ref 61),(.ref 73),(.ref 85),(.ref 104),(.ref 123),(.ref 135),(.ref 147),(.ref 166)] false none false)) #[(some (.ref 39)),none,(some (.str "LotError" 226)),(some (.str "LotError" 234)),(some (.builtin "ValueError.__new__")),(some (.bool true))])) ::
 (nat_lit 49,(Obj.mk (.type "getset_descriptor") none (.fields #[(.str "__weakref__" 239),(.ref 48),(.builtin "ExceptionGroup.__weakref__"),.none]) #[])) ::
 (nat_lit 52,(L2.oT #[(.ref 48)])) ::
 (nat_lit 59,L2.o0) ::
 (nat_lit 60,(Obj.mk (.type "dict") none (.dict #[(L2.dE P "__module__" 251 (.str "lotmeal.errors" 224)),(L2.dE P "__firstlineno__" 255 (.int 40 254)),(L2.dE P "__static_attributes__" 256 (.ref 59)),(L2.dE P "__doc__" 257 .none)] 2) #[])) ::
 (nat_lit 61,(Obj.mk (.type "type") none (.cls (ClassData.mk "NoNumber" [(.ref 48)] [(.ref 61),(.ref 48),(.type "ValueError"),(.type "Exception"),(.type "BaseException"),(.type "object")] 60 "NoNumber" true [] [] false none false)) #[(some (.ref 52)),none,(some (.str "NoNumber" 244)),(some (.str "NoNumber" 252)),(some (.builtin "ValueError.__new__")),(some (.bool true))])) ::
 (nat_lit 64,(L2.oT #[(.ref 48)])) ::
 (nat_lit 71,L2.o0) ::
 (nat_lit 72,(Obj.mk (.type "dict") none (.dict #[(L2.dE P "__module__" 267 (.str "lotmeal.errors" 224)),(L2.dE P "__firstlineno__" 271 (.int 42 270)),(L2.dE P "__static_attributes__" 272 (.ref 71)),(L2.dE P "__doc__" 273 .none)] 2) #[])) ::
 (nat_lit 73,(Obj.mk (.type "type") none (.cls (ClassData.mk "TooGreat" [(.ref 48)] [(.ref 73),(.ref 48),(.type "ValueError"),(.type "Exception"),(.type "BaseException"),(.type "object")] 72 "TooGreat" true [] [] false none false)) #[(some (.ref 64)),none,(some (.str "TooGreat" 260)),(some (.str "TooGreat" 268)),(some (.builtin "ValueError.__new__")),(some (.bool true))])) ::
 (nat_lit 76,(L2.oT #[(.ref 48)])) ::
 (nat_lit 83,L2.o0) ::
 (nat_lit 84,(Obj.mk (.type "dict") none (.dict #[(L2.dE P "__module__" 283 (.str "lotmeal.errors" 224)),(L2.dE P "__firstlineno__" 287 (.int 44 286)),(L2.dE P "__static_attributes__" 288 (.ref 83)),(L2.dE P "__doc__" 289 .none)] 2) #[])) ::
 (nat_lit 85,(Obj.mk (.type "type") none (.cls (ClassData.mk "NoAsker" [(.ref 48)] [(.ref 85),(.ref 48),(.type "ValueError"),(.type "Exception"),(.type "BaseException"),(.type "object")] 84 "NoAsker" true [] [] false none false)) #[(some (.ref 76)),none,(some (.str "NoAsker" 276)),(some (.str "NoAsker" 284)),(some (.builtin "ValueError.__new__")),(some (.bool true))])) ::
 (nat_lit 88,(L2.oT #[(.ref 48)])) ::
 (nat_lit 95,L2.o0) ::
 (nat_lit 97,(L2.oT #[(.str "self" 307),(.str "asker" 308)])) ::
 (nat_lit 98,L2.o0) ::
 (nat_lit 100,(L2.oC #[(.str "__init__" 304),(.str "NoThing.__init__" 305),(.str "/claim/cut.py" 306),(.int 48 0),(.int 2 0),(.int 0 0),(.int 0 0),(.int 3 0),(.ref 95),(.bool true),(.int 181 0),(.ref 96),.none,(.ref 97),(.ref 98),(.ref 99),(.int 309 0),(.int 48 0),(.str "/claim/cut.py" 310)])) ::
 (nat_lit 101,(Obj.mk (.type "function") none (.func (FuncData.mk "__init__" "NoThing.__init__" (L2.dA (L2.dM (tp 10) 0)) (.stmts (L2.dB (L2.dM (tp 10) 0))) (L2.dS (L2.dM (tp 10) 0)) 3 [] .none .none .none (.str "lotmeal.errors" 224) none (.ref 100) .none 0)) #[])) ::
 (nat_lit 102,(L2.oT #[(.str "asker" 312)])) ::
 (nat_lit 103,(Obj.mk (.type "dict") none (.dict #[(L2.dE P "__module__" 299 (.str "lotmeal.errors" 224)),(L2.dE P "__firstlineno__" 303 (.int 46 302)),(L2.dE P "__init__" 311 (.ref 101)),(L2.dE P "__static_attributes__" 313 (.ref 102)),(L2.dE P "__doc__" 314 .none)] 2) #[])) ::
 (nat_lit 104,(Obj.mk (.type "type") none (.cls (ClassData.mk "NoThing" [(.ref 48)] [(.ref 104),(.ref 48),(.type "ValueError"),(.type "Exception"),(.type "BaseException"),(.type "object")] 103 "NoThing" true [] [] false none false)) #[(some (.ref 88)),none,(some (.str "NoThing" 292)),(some (.str "NoThing" 300)),(some (.builtin "ValueError.__new__")),(some (.bool true))])) ::
 (nat_lit 107,(L2.oT #[(.ref 48)])) ::
 (nat_lit 114,L2.o0) ::
 (nat_lit 116,(L2.oT #[(.str "self" 332),(.str "asker" 333)])) ::
 (nat_lit 117,L2.o0) ::
 (nat_lit 119,(L2.oC #[(.str "__init__" 329),(.str "Twice.__init__" 330),(.str "/claim/cut.py" 331),(.int 53 0),(.int 2 0),(.int 0 0),(.int 0 0),(.int 3 0),(.ref 114),(.bool true),(.int 181 0),(.ref 115),.none,(.ref 116),(.ref 117),(.ref 118),(.int 334 0),(.int 53 0),(.str "/claim/cut.py" 335)])) ::
 (nat_lit 120,(Obj.mk (.type "function") none (.func (FuncData.mk "__init__" "Twice.__init__" (L2.dA (L2.dM (tp 11) 0)) (.stmts (L2.dB (L2.dM (tp 11) 0))) (L2.dS (L2.dM (tp 11) 0)) 3 [] .none .none .none (.str "lotmeal.errors" 224) none (.ref 119) .none 0)) #[])) ::
 (nat_lit 121,(L2.oT #[(.str "asker" 337)])) ::
 (nat_lit 122,(Obj.mk (.type "dict") none (.dict #[(L2.dE P "__module__" 324 (.str "lotmeal.errors" 224)),(L2.dE P "__firstlineno__" 328 (.int 51 327)),(L2.dE P "__init__" 336 (.ref 120)),(L2.dE P "__static_attributes__" 338 (.ref 121)),(L2.dE P "__doc__" 339 .none)] 2) #[])) ::
 (nat_lit 123,(Obj.mk (.type "type") none (.cls (ClassData.mk "Twice" [(.ref 48)] [(.ref 123),(.ref 48),(.type "ValueError"),(.type "Exception"),(.type "BaseException"),(.type "object")] 122 "Twice" true [] [] false none false)) #[(some (.ref 107)),none,(some (.str "Twice" 317)),(some (.str "Twice" 325)),(some (.builtin "ValueError.__new__")),(some (.bool true))])) ::
 (nat_lit 126,(L2.oT #[(.ref 48)])) ::
 (nat_lit 133,L2.o0) ::
 (nat_lit 134,(Obj.mk (.type "dict") none (.dict #[(L2.dE P "__module__" 349 (.str "lotmeal.errors" 224)),(L2.dE P "__firstlineno__" 353 (.int 56 352)),(L2.dE P "__static_attributes__" 354 (.ref 133)),(L2.dE P "__doc__" 355 .none)] 2) #[])) ::
 (nat_lit 135,(Obj.mk (.type "type") none (.cls (ClassData.mk "NoShares" [(.ref 48)] [(.ref 135),(.ref 48),(.type "ValueError"),(.type "Exception"),(.type "BaseException"),(.type "object")] 134 "NoShares" true [] [] false none false)) #[(some (.ref 126)),none,(some (.str "NoShares" 342)),(some (.str "NoShares" 350)),(some (.builtin "ValueError.__new__")),(some (.bool true))])) ::
 (nat_lit 138,(L2.oT #[(.ref 48)])) ::
 (nat_lit 145,L2.o0) ::
 (nat_lit 146,(Obj.mk (.type "dict") none (.dict #[(L2.dE P "__module__" 365 (.str "lotmeal.errors" 224)),(L2.dE P "__firstlineno__" 369 (.int 58 368)),(L2.dE P "__static_attributes__" 370 (.ref 145)),(L2.dE P "__doc__" 371 .none)] 2) #[])) ::
 (nat_lit 147,(Obj.mk (.type "type") none (.cls (ClassData.mk "NoTurns" [(.ref 48)] [(.ref 147),(.ref 48),(.type "ValueError"),(.type "Exception"),(.type "BaseException"),(.type "object")] 146 "NoTurns" true [] [] false none false)) #[(some (.ref 138)),none,(some (.str "NoTurns" 358)),(some (.str "NoTurns" 366)),(some (.builtin "ValueError.__new__")),(some (.bool true))])) ::
 (nat_lit 150,(L2.oT #[(.ref 48)])) ::
 (nat_lit 157,L2.o0) ::
 (nat_lit 159,(L2.oT #[(.str "self" 389),(.str "many" 390)])) ::
 (nat_lit 160,L2.o0) ::
 (nat_lit 162,(L2.oC #[(.str "__init__" 386),(.str "NoTicket.__init__" 387),(.str "/claim/cut.py" 388),(.int 62 0),(.int 2 0),(.int 0 0),(.int 0 0),(.int 3 0),(.ref 157),(.bool true),(.int 181 0),(.ref 158),.none,(.ref 159),(.ref 160),(.ref 161),(.int 391 0),(.int 62 0),(.str "/claim/cut.py" 392)])) ::
 (nat_lit 163,(Obj.mk (.type "function") none (.func (FuncData.mk "__init__" "NoTicket.__init__" (L2.dA (L2.dM (tp 14) 0)) (.stmts (L2.dB (L2.dM (tp 14) 0))) (L2.dS (L2.dM (tp 14) 0)) 3 [] .none .none .none (.str "lotmeal.errors" 224) none (.ref 162) .none 0)) #[])) ::
 (nat_lit 164,(L2.oT #[(.str "many" 394)])) ::
 (nat_lit 165,(Obj.mk (.type "dict") none (.dict #[(L2.dE P "__module__" 381 (.str "lotmeal.errors" 224)),(L2.dE P "__firstlineno__" 385 (.int 60 384)),(L2.dE P "__init__" 393 (.ref 163)),(L2.dE P "__static_attributes__" 395 (.ref 164)),(L2.dE P "__doc__" 396 .none)] 2) #[])) ::
 (nat_lit 166,(Obj.mk (.type "type") none (.cls (ClassData.mk "NoTicket" [(.ref 48)] [(.ref 166),(.ref 48),(.type "ValueError"),(.type "Exception"),(.type "BaseException"),(.type "object")] 165 "NoTicket" true [] [] false none false)) #[(some (.ref 150)),none,(some (.str "NoTicket" 374)),(some (.str "NoTicket" 382)),(some (.builtin "ValueError.__new__")),(some (.bool true))])) ::
 (nat_lit 169,L2.o0) ::
 (nat_lit 171,(L2.oT #[(.str "number" 404)])) ::
 (nat_lit 172,L2.o0) ::
 (nat_lit 174,(L2.oD "is_whole" 401 66 1 169 170 (.ref 171) (.ref 172) 173 405)) ::
 (nat_lit 175,(L2.oF "is_whole" (tp 16) .none (.str "lotmeal.fractions" 399) (.ref 174))) ::
 (nat_lit 176,L2.o0) ::
 (nat_lit 178,(L2.oT #[(.str "one" 411),(.str "other" 412),(.str "rest" 413)])) ::
 (nat_lit 179,L2.o0) ::
 (nat_lit 181,(L2.oD "common_part" 408 68 2 176 177 (.ref 178) (.ref 179) 180 414)) ::
 (nat_lit 182,(L2.oF "common_part" (tp 17) .none (.str "lotmeal.fractions" 399) (.ref 181))) ::
 (nat_lit 183,(L2.oT #[(.int 1 417)])) ::
 (nat_lit 184,L2.o0) ::
 (nat_lit 186,(L2.oT #[(.str "top" 421),(.str "bottom" 422),(.str "part" 423)])) ::
 (nat_lit 187,L2.o0) ::
 (nat_lit 189,(L2.oD "fraction" 418 74 2 184 185 (.ref 186) (.ref 187) 188 424)) ::
 (nat_lit 190,(L2.oF "fraction" (tp 18) (.ref 183) (.str "lotmeal.fractions" 399) (.ref 189))) ::
 (nat_lit 191,L2.o0) ::
 (nat_lit 193,(L2.oT #[(.str "one" 430),(.str "other" 431)])) ::
 (nat_lit 194,L2.o0) ::
 (nat_lit 196,(L2.oD "plus" 427 83 2 191 192 (.ref 193) (.ref 194) 195 432)) ::
 (nat_lit 197,(L2.oF "plus" (tp 19) .none (.str "lotmeal.fractions" 399) (.ref 196))) ::
 (nat_lit 198,L2.o0) ::
 (nat_lit 200,(L2.oT #[(.str "one" 438),(.str "other" 439)])) ::
 (nat_lit 201,L2.o0) ::
 (nat_lit 203,(L2.oD "minus" 435 85 2 198 199 (.ref 200) (.ref 201) 202 440)) ::
 (nat_lit 204,(L2.oF "minus" (tp 20) .none (.str "lotmeal.fractions" 399) (.ref 203))) ::
 (nat_lit 205,L2.o0) ::
 (nat_lit 207,(L2.oT #[(.str "one" 446),(.str "other" 447)])) ::
 (nat_lit 208,L2.o0) ::
 (nat_lit 210,(L2.oD "times" 443 87 2 205 206 (.ref 207) (.ref 208) 209 448)) ::
 (nat_lit 211,(L2.oF "times" (tp 21) .none (.str "lotmeal.fractions" 399) (.ref 210))) ::
 (nat_lit 212,L2.o0) ::
 (nat_lit 214,(L2.oT #[(.str "one" 454),(.str "other" 455)])) ::
 (nat_lit 215,L2.o0) ::
 (nat_lit 217,(L2.oD "over" 451 89 2 212 213 (.ref 214) (.ref 215) 216 456)) ::
 (nat_lit 218,(L2.oF "over" (tp 22) .none (.str "lotmeal.fractions" 399) (.ref 217))) ::
 (nat_lit 219,L2.o0) ::
 (nat_lit 221,(L2.oT #[(.str "one" 462),(.str "other" 463)])) ::
 (nat_lit 222,L2.o0) ::
 (nat_lit 224,(L2.oD "under" 459 93 2 219 220 (.ref 221) (.ref 222) 223 464)) ::
 (nat_lit 225,(L2.oF "under" (tp 23) .none (.str "lotmeal.fractions" 399) (.ref 224))) ::
 (nat_lit 226,L2.o0) ::
 (nat_lit 228,(L2.oT #[(.str "some" 470),(.str "total" 471),(.str "one" 472)])) ::
 (nat_lit 229,L2.o0) ::
 (nat_lit 231,(L2.oD "sum_of" 467 95 1 226 227 (.ref 228) (.ref 229) 230 473)) ::
 (nat_lit 232,(L2.oF "sum_of" (tp 24) .none (.str "lotmeal.fractions" 399) (.ref 231))) ::
 (nat_lit 233,L2.o0) ::
 (nat_lit 235,(L2.oT #[(.str "some" 479),(.str "least" 480),(.str "one" 481)])) ::
 (nat_lit 236,L2.o0) ::
 (nat_lit 238,(L2.oD "common_bottom" 476 100 1 233 234 (.ref 235) (.ref 236) 237 482)) ::
 (nat_lit 239,(L2.oF "common_bottom" (tp 25) .none (.str "lotmeal.fractions" 399) (.ref 238))) ::
 (nat_lit 240,L2.o0) ::
 (nat_lit 242,(L2.oT #[(.str "some" 488),(.str "least" 489),(.str "one" 490)])) ::
 (nat_lit 243,L2.o0) ::
 (nat_lit 245,(L2.oD "least_of" 485 105 1 240 241 (.ref 242) (.ref 243) 244 491)) ::
 (nat_lit 246,(L2.oF "least_of" (tp 26) .none (.str "lotmeal.fractions" 399) (.ref 245))) ::
 (nat_lit 247,L2.o0) ::
 (nat_lit 250,(L2.oD "bottom_of_all" 494 111 1 247 248 .none .none 249 497)) ::
 (nat_lit 251,(L2.oF "bottom_of_all" (tp 27) .none (.str "lotmeal.fractions" 399) (.ref 250))) ::
 (nat_lit 252,L2.o0) ::
 (nat_lit 254,(L2.oT #[(.str "one" 503),(.str "bottom" 504)])) ::
 (nat_lit 255,L2.o0) ::
 (nat_lit 257,(L2.oD "parts_of" 500 113 2 252 253 (.ref 254) (.ref 255) 256 505)) ::
 (nat_lit 258,(L2.oF "parts_of" (tp 28) .none (.str "lotmeal.fractions" 399) (.ref 257))) ::
 (nat_lit 259,L2.o0) ::
 (nat_lit 262,(L2.oD "check_orders" 514 118 2 259 260 .none .none 261 517)) ::
 (nat_lit 263,(L2.oF "check_orders" (tp 32) .none (.str "lotmeal.tables" 508) (.ref 262))) ::
 (nat_lit 264,L2.o0) ::
 (nat_lit 267,(L2.oD "table_of" 520 125 2 264 265 .none .none 266 523)) ::
 (nat_lit 268,(L2.oF "table_of" (tp 33) .none (.str "lotmeal.tables" 508) (.ref 267))) ::
 (nat_lit 269,L2.o0) ::
 (nat_lit 272,(L2.oD "full_order" 526 134 2 269 270 .none .none 271 529)) ::
 (nat_lit 273,(L2.oF "full_order" (tp 34) .none (.str "lotmeal.tables" 508) (.ref 272))) ::
 (nat_lit 274,L2.o0) ::
 (nat_lit 277,(L2.oD "first_left" 532 138 2 274 275 .none .none 276 535)) ::
 (nat_lit 278,(L2.oF "first_left" (tp 35) .none (.str "lotmeal.tables" 508) (.ref 277))) ::
 (nat_lit 279,L2.o0) ::
 (nat_lit 282,(L2.oD "dealt_of" 538 140 2 279 280 .none .none 281 541)) ::
 (nat_lit 283,(L2.oF "dealt_of" (tp 36) .none (.str "lotmeal.tables" 508) (.ref 282))) ::
 (nat_lit 284,L2.o0) ::
 (nat_lit 287,(L2.oD "is_row" 544 142 2 284 285 .none .none 286 547)) ::
 (nat_lit 288,(L2.oF "is_row" (tp 37) .none (.str "lotmeal.tables" 508) (.ref 287))) ::
 (nat_lit 289,L2.o0) ::
 (nat_lit 292,(L2.oD "are_shares" 550 148 2 289 290 .none .none 291 553)) ::
 (nat_lit 293,(L2.oF "are_shares" (tp 38) .none (.str "lotmeal.tables" 508) (.ref 292))) ::
 (nat_lit 294,L2.o0) ::
 (nat_lit 297,(L2.oD "weight_of" 558 153 3 294 295 .none .none 296 561)) ::
 (nat_lit 298,(L2.oF "weight_of" (tp 40) .none (.str "lotmeal.mixes" 556) (.ref 297))) ::
 (nat_lit 299,L2.o0) ::
 (nat_lit 302,(L2.oD "shares_of" 564 155 2 299 300 .none .none 301 567)) ::
 (nat_lit 303,(L2.oF "shares_of" (tp 41) .none (.str "lotmeal.mixes" 556) (.ref 302))) ::
 (nat_lit 304,L2.o0) ::
 (nat_lit 307,(L2.oD "spare_parts" 570 158 2 304 305 .none .none 306 573)) ::
 (nat_lit 308,(L2.oF "spare_parts" (tp 42) .none (.str "lotmeal.mixes" 556) (.ref 307))) ::
 (nat_lit 309,L2.o0) ::
 (nat_lit 312,(L2.oD "next_deal" 576 161 2 309 310 .none .none 311 579)) ::
 (nat_lit 313,(L2.oF "next_deal" (tp 43) .none (.str "lotmeal.mixes" 556) (.ref 312))) ::
 (nat_lit 314,L2.o0) ::
 (nat_lit 317,(L2.oD "most_weight" 582 165 3 314 315 .none .none 316 585)) ::
 (nat_lit 318,(L2.oF "most_weight" (tp 44) .none (.str "lotmeal.mixes" 556) (.ref 317))) ::
 (nat_lit 319,L2.o0) ::
 (nat_lit 322,(L2.oD "left_after" 588 172 3 319 320 .none .none 321 591)) ::
 (nat_lit 323,(L2.oF "left_after" (tp 45) .none (.str "lotmeal.mixes" 556) (.ref 322))) ::
 (nat_lit 324,L2.o0) ::
 (nat_lit 327,(L2.oD "mix_of" 594 177 2 324 325 .none .none 326 597)) ::
 (nat_lit 328,(L2.oF "mix_of" (tp 46) .none (.str "lotmeal.mixes" 556) (.ref 327))) ::
 (nat_lit 329,L2.o0) ::
 (nat_lit 332,(L2.oD "next_length" 602 191 3 329 330 .none .none 331 605)) ::
 (nat_lit 333,(L2.oF "next_length" (tp 48) .none (.str "lotmeal.meal" 600) (.ref 332))) ::
 (nat_lit 334,L2.o0) ::
 (nat_lit 337,(L2.oD "left_behind" 608 194 3 334 335 .none .none 336 611)) ::
 (nat_lit 338,(L2.oF "left_behind" (tp 49) .none (.str "lotmeal.meal" 600) (.ref 337))) ::
 (nat_lit 339,L2.o0) ::
 (nat_lit 342,(L2.oD "ended_things" 614 196 1 339 340 .none .none 341 617)) ::
 (nat_lit 343,(L2.oF "ended_things" (tp 50) .none (.str "lotmeal.meal" 600) (.ref 342))) ::
 (nat_lit 344,L2.o0) ::
 (nat_lit 347,(L2.oD "meal_steps" 620 198 1 344 345 .none .none 346 623)) ::
 (nat_lit 348,(L2.oF "meal_steps" (tp 51) .none (.str "lotmeal.meal" 600) (.ref 347))) ::
 (nat_lit 349,L2.o0) ::
 (nat_lit 352,(L2.oD "eaten_by" 626 211 3 349 350 .none .none 351 629)) ::
 (nat_lit 353,(L2.oF "eaten_by" (tp 52) .none (.str "lotmeal.meal" 600) (.ref 352))) ::
 (nat_lit 354,L2.o0) ::
 (nat_lit 357,(L2.oD "meal" 632 213 1 354 355 .none .none 356 635)) ::
 (nat_lit 358,(L2.oF "meal" (tp 53) .none (.str "lotmeal.meal" 600) (.ref 357))) ::
 (nat_lit 359,L2.o0) ::
 (nat_lit 362,(L2.oD "tickets" 640 219 1 359 360 .none .none 361 643)) ::
 (nat_lit 363,(L2.oF "tickets" (tp 55) .none (.str "lotmeal.tickets" 638) (.ref 362))) ::
 (nat_lit 364,L2.o0) ::
 (nat_lit 366,(L2.oT #[(.str "mix" 649),(.str "number" 650),(.str "many" 651),(.str "end" 652),(.str "weight" 653),(.str "deal" 654)])) ::
 (nat_lit 367,L2.o0) ::
 (nat_lit 369,(L2.oD "deal_at" 646 221 2 364 365 (.ref 366) (.ref 367) 368 655)) ::
 (nat_lit 370,(L2.oF "deal_at" (tp 56) .none (.str "lotmeal.tickets" 638) (.ref 369))) ::
 (nat_lit 371,L2.o0) ::
 (nat_lit 374,(L2.oD "deal_by" 662 231 2 371 372 .none .none 373 665)) ::
 (nat_lit 375,(L2.oF "deal_by" (tp 59) .none (.str "lotmeal.turns" 658) (.ref 374))) ::
 (nat_lit 376,L2.o0) ::
 (nat_lit 379,(L2.oD "longer" 668 240 2 376 377 .none .none 378 671)) ::
 (nat_lit 380,(L2.oF "longer" (tp 60) .none (.str "lotmeal.turns" 658) (.ref 379))) ::
 (nat_lit 381,L2.o0) ::
 (nat_lit 383,(L2.oT #[(.str "many" 677),(.str "told" 678),(.str "length" 679)])) ::
 (nat_lit 384,L2.o0) ::
 (nat_lit 386,(L2.oD "all_turns" 674 245 1 381 382 (.ref 383) (.ref 384) 385 680)) ::
 (nat_lit 387,(L2.oF "all_turns" (tp 61) .none (.str "lotmeal.turns" 658) (.ref 386))) ::
 (nat_lit 388,L2.o0) ::
 (nat_lit 391,(L2.oD "turn_mix" 683 252 1 388 389 .none .none 390 686)) ::
 (nat_lit 392,(L2.oF "turn_mix" (tp 62) .none (.str "lotmeal.turns" 658) (.ref 391))) ::
 (nat_lit 393,L2.o0) ::
 (nat_lit 395,(L2.oT #[(.str "table" 692)])) ::
 (nat_lit 396,L2.o0) ::
 (nat_lit 398,(L2.oD "turn_shares" 689 259 1 393 394 (.ref 395) (.ref 396) 397 693)) ::
 (nat_lit 399,(L2.oF "turn_shares" (tp 63) .none (.str "lotmeal.turns" 658) (.ref 398))) ::
 (nat_lit 400,L2.o0) ::
 (nat_lit 402,(L2.oT #[(.str "_law_script" 701),(.str "_law_k" 702)])) ::
 (nat_lit 403,L2.o0) ::
 (nat_lit 405,(L2.oD "_law_cell_at" 698 262 2 400 401 (.ref 402) (.ref 403) 404 703)) ::
 (nat_lit 406,(L2.oF "_law_cell_at" (tp 65) .none (.str "law_lotmeal_k92_whole_from_shares_to_tickets" 696) (.ref 405))) ::
 (nat_lit 407,L2.o0) ::
 (nat_lit 409,(L2.oT #[(.str "_law_one" 709),(.str "_law_other" 710)])) ::
 (nat_lit 410,L2.o0) ::
 (nat_lit 412,(L2.oD "_law_divisor" 706 266 2 407 408 (.ref 409) (.ref 410) 411 711)) ::
 (nat_lit 413,(L2.oF "_law_divisor" (tp 66) .none (.str "law_lotmeal_k92_whole_from_shares_to_tickets" 696) (.ref 412))) ::
 (nat_lit 414,L2.o0) ::
 (nat_lit 417,(L2.oD "_law_order" 714 270 2 414 415 .none .none 416 717)) ::
 (nat_lit 418,(L2.oF "_law_order" (tp 67) .none (.str "law_lotmeal_k92_whole_from_shares_to_tickets" 696) (.ref 417))) ::
 (nat_lit 419,L2.o0) ::
 (nat_lit 421,(L2.oT #[(.str "_law_script" 723),(.str "_law_start" 724),(.str "_law_first" 725),(.str "_law_many" 726),(.str "_law_counts" 727),(.str "_law_k" 728),(.str "_law_cell" 729),(.str "_law_orders" 730)])) ::
 (nat_lit 422,L2.o0) ::
 (nat_lit 424,(L2.oD "_law_table" 720 279 2 419 420 (.ref 421) (.ref 422) 423 731)) ::
 (nat_lit 425,(L2.oF "_law_table" (tp 68) .none (.str "law_lotmeal_k92_whole_from_shares_to_tickets" 696) (.ref 424))) ::
 (nat_lit 426,L2.o0) ::
 (nat_lit 428,(L2.oT #[(.str "_law_found" 737)])) ::
 (nat_lit 429,L2.o0) ::
 (nat_lit 431,(L2.oD "_law_whole" 734 294 1 426 427 (.ref 428) (.ref 429) 430 738)) ::
 (nat_lit 432,(L2.oF "_law_whole" (tp 69) .none (.str "law_lotmeal_k92_whole_from_shares_to_tickets" 696) (.ref 431))) ::
 (nat_lit 433,L2.o0) ::
 (nat_lit 435,(L2.oT #[(.str "_law_one" 744)])) ::
 (nat_lit 436,L2.o0) ::
 (nat_lit 438,(L2.oD "_law_is_weight" 741 296 1 433 434 (.ref 435) (.ref 436) 437 745)) ::
 (nat_lit 439,(L2.oF "_law_is_weight" (tp 70) .none (.str "law_lotmeal_k92_whole_from_shares_to_tickets" 696) (.ref 438))) ::
 (nat_lit 440,L2.o0) ::
 (nat_lit 443,(L2.oD "_law_is_mix" 748 300 3 440 441 .none .none 442 751)) ::
 (nat_lit 444,(L2.oF "_law_is_mix" (tp 71) .none (.str "law_lotmeal_k92_whole_from_shares_to_tickets" 696) (.ref 443))) ::
 (nat_lit 445,L2.o0) ::
 (nat_lit 448,(L2.oD "_law_tickets_told" 754 319 3 445 446 .none .none 447 757)) ::
 (nat_lit 449,(L2.oF "_law_tickets_told" (tp 72) .none (.str "law_lotmeal_k92_whole_from_shares_to_tickets" 696) (.ref 448))) ::
 (nat_lit 450,L2.o0) ::
 (nat_lit 453,(L2.oD "law" 760 344 1 450 451 .none .none 452 763)) ::
 (nat_lit 454,(L2.oF "law" (tp 73) .none (.str "law_lotmeal_k92_whole_from_shares_to_tickets" 696) (.ref 453)))::[]
def hA:List Addr:=[2,3,15,18,19,20,22,23,25,26,27,30,31,32,34,35,37,38,39,46,47,48,49,52,59,60,61,64,71,72,73,76,83,84,85,88,95,97,98,100,101,102,103,104,107,114,116,117,119,120,121,122,123,126,133,134,135,138,145,146,147,150,157,159,160,162,163,164,165,166,169,171,172,174,175,176,178,179,181,182,183,184,186,187,189,190,191,193,194,196,197,198,200,201,203,204,205,207,208,210,211,212,214,215,217,218,219,221,222,224,225,226,228,229,231,232,233,235,236,238,239,240,242,243,245,246,247,250,251,252,254,255,257,258,259,262,263,264,267,268,269,272,273,274,277,278,279,282,283,284,287,288,289,292,293,294,297,298,299,302,303,304,307,308,309,312,313,314,317,318,319,322,323,324,327,328,329,332,333,334,337,338,339,342,343,344,347,348,349,352,353,354,357,358,359,362,363,364,366,367,369,370,371,374,375,376,379,380,381,383,384,386,387,388,391,392,393,395,396,398,399,400,402,403,405,406,407,409,410,412,413,414,417,418,419,421,422,424,425,426,428,429,431,432,433,435,436,438,439,440,443,444,445,448,449,450,453,454]
theorem yt (P:Params):hA=(hK P).map (·.1):=by kernel_rfl
def hV:Program:={ pr with main:={ pr.main with body:=[1,2,3,4,6,7,8,9,10,11,12,13,14,16,17,19,20,21,22,23,24,25,26,27,28,30,31,32,33,34,35,36,37,38,40,41,42,43,44,45,46,48,49,50,51,52,53,55,56,58,59,60,61,62,63,65,66,67,68,69,70,71,72,73].map tp } }
def hX (s:Shared):Bool:=xlAt hV [] s&&recOk (RowW.records PySem.Challenge.rw_lotmeal_k92_whole_from_shares_to_tickets.row.toRowW) s
noncomputable abbrev hH:Hook:=kHook hK hA yt
theorem h1:opening pr=plainProg pr.main.scope.names:=by kernel_rfl
theorem h2 (s:Shared):fenceModules? pr s=some s:=by kernel_rfl
theorem h3 (w:World):(fun os=>(L2.mZ pr w 7288 os).map fun st=>L2.uA pr w st)=fun _=>some true:=by kernel_rfl
theorem h4 (w:World):(fun os=>(L2.mZ pr w 7288 os).map fun st=>openSeen hV ["fraction"] (importedModules pr.main.body) hX true st.abs)=fun _=>some (openGood hV ["fraction"]):=by kernel_rfl
theorem h5 (w:World):(fun os=>(L2.mZ pr w 7288 os).map fun st=>hH.obs st.abs)=fun _=>some (hH.val w):=by kernel_rfl
theorem hL:LeftO pr hV ["fraction"] hX hH.obs hH.val 7288:=L2.Xi h1 (by decide) h2 h3 h4 h5
end iM
namespace L2
open PySem PySem.Spec PyProof.Rows
abbrev Key:=Sum Int Str
def oQ:Key->Value->Bool
 | .inl k,v=>Value.isInt k v
 | .inr x,v=>Value.isStrOf x v
def aco (w:World):Key->Int
 | .inl k=>hashInt k
 | .inr x=>hashStr w x
theorem kE:∀ {k:Key} {v:Value},oQ k v=true->(∃ i t,k=Sum.inl i/\v=Value.int i t)\/(∃ x t,k=Sum.inr x/\v=Value.str x t)
 | .inl i,v,h=>by
  obtain⟨t,e⟩:=Value.isInt_shape (k:=i) (v:=v) h;exact .inl ⟨i,t,rfl,e⟩
 | .inr x,v,h=>by
  obtain⟨t,e⟩:=Value.isStrOf_shape (x:=x) (v:=v) h;exact .inr ⟨x,t,rfl,e⟩
theorem Xj (i:Int)(t:Tok):oQ (.inl i) (.int i t)=true:=by simp[oQ,Value.isInt]
theorem Xk (x:Str)(t:Tok):oQ (.inr x) (.str x t)=true:=by simp[oQ,Value.isStrOf]
theorem Oz (a b:Int):decide ((Sum.inl a:Key)=Sum.inl b)=(a==b):=by
 by_cases e:a=b
 ·subst e;simp
 ·have h:¬ (Sum.inl a:Key)=Sum.inl b:=fun q=>e (Sum.inl.inj q)
  rw[tw h];exact(Pc.mpr e).symm
theorem aaj (a b:Str):decide ((Sum.inr a:Key)=Sum.inr b)=decide (a=b):=by
 by_cases e:a=b
 ·subst e;simp
 ·have h:¬ (Sum.inr a:Key)=Sum.inr b:=fun q=>e (Sum.inr.inj q)
  rw[tw h,tw e]
theorem aak (a:Int)(b:Str):decide ((Sum.inl a:Key)=Sum.inr b)=false:=tw (fun q=>nomatch q)
theorem aal (a:Str)(b:Int):decide ((Sum.inr a:Key)=Sum.inl b)=false:=tw (fun q=>nomatch q)
def fJ (prog:Program)(w:World):PySem.KeyKind prog w Key where
 is:=oQ
 hash:=aco w
 inj:=fun v a b ha hb=>by
  rcases kE ha with⟨i,t,rfl,rfl⟩ | ⟨x,t,rfl,rfl⟩
  ·rcases kE hb with⟨j,u,rfl,e⟩ | ⟨y,u,rfl,e⟩
   ·injection e with e1 _;rw[e1]
   ·exact nomatch e
  ·rcases kE hb with⟨j,u,rfl,e⟩ | ⟨y,u,rfl,e⟩
   ·exact nomatch e
   ·injection e with e1 _;rw[e1]
 byValue:=fun k v h=>by
  rcases kE h with⟨i,t,rfl,rfl⟩ | ⟨x,t,rfl,rfl⟩<;>rfl
 pyHash:=fun hv h=>by
  rcases kE hv with⟨i,t,rfl,rfl⟩ | ⟨x,t,rfl,rfl⟩
  ·exact wpAny_pyHash_int h
  ·exact wpAny_pyHash_str h
 eqBool:=fun hu hv h=>by
  rcases kE hu with⟨i,t,rfl,rfl⟩ | ⟨x,t,rfl,rfl⟩
  ·rcases kE hv with⟨j,u,rfl,rfl⟩ | ⟨y,u,rfl,rfl⟩
   ·rw[Oz]at h;exact wpAny_eqBool_int h
   ·rw[aak]at h;exact SeqAt.EqAt.int_str i t y u _ _ _ _ h
  ·rcases kE hv with⟨j,u,rfl,rfl⟩ | ⟨y,u,rfl,rfl⟩
   ·rw[aal]at h;exact SeqAt.EqAt.str_int x t j u _ _ _ _ h
   ·rw[aaj]at h;exact wpAny_eqBool_str h
 «strs»:=fun k x t v h=>by
  rcases kE h with⟨i,u,rfl,e⟩ | ⟨y,u,rfl,e⟩
  ·exact nomatch e
  ·injection e with e1 _
   subst e1;cases v<;>rfl
theorem WX (prog:Program)(w:World)(k:Key)(v:Value):(fJ prog w).is k v=oQ k v:=rfl
theorem Wq (prog:Program)(w:World)(i:Int)(t:Tok):(fJ prog w).is (.inl i) (.int i t)=true:=Xj i t
theorem Wr (prog:Program)(w:World)(x:Str)(t:Tok):(fJ prog w).is (.inr x) (.str x t)=true:=Xk x t
inductive V where
 |aH | bl (b:Bool) | int (i:Int) | str (x:Str) | jm (b:Array UInt8) | nJ (b:UInt64) | ref (a:Addr) | ty (n:String)
 deriving DecidableEq
def RelV:V->Value->Prop
 | .aH,u=>u=Value.none
 | .bl b,u=>u=Value.bool b
 | .int i,u=>∃ t,u=Value.int i t
 | .str x,u=>∃ t,u=Value.str x t
 | .jm b,u=>∃ t,u=Value.bytes b t
 | .nJ b,u=>∃ t,u=Value.float b t
 | .ref a,u=>u=Value.ref a
 | .ty n,u=>u=Value.type n
abbrev Vals:List V->List Value->Prop:=Paired RelV
theorem Vals.length {xs:List V}{us:List Value}(r:Vals xs us):xs.length=us.length:=Paired.length r
theorem Vals.get:∀ {xs:List V} {us:List Value} {i:Nat} {x:V},Vals xs us->xs[i]?=some x->∃ u,us[i]?=some u/\RelV x u
 |_,_,_,_,.nil,e=>by simp at e
 |_,_,0,_,.cons r _,e=>by simp at e;subst e;exact⟨_,rfl,r⟩
 |_,_,i+1,x,.cons _ t,e=>by
  obtain⟨u,h1,h2⟩:=Vals.get (i:=i) (x:=x) t (by simpa using e);exact⟨u,by simpa using h1,h2⟩
theorem Vals.set {x:V}{u:Value}(r:RelV x u):∀ {xs:List V} {us:List Value} (i:Nat),Vals xs us->Vals (xs.set i x) (us.set i u)
 |_,_,_,.nil=>.nil
 |_,_,0,.cons _ t=>.cons r t
 |_,_,i+1,.cons q t=>.cons q (Vals.set r i t)
theorem Vals.append:∀ {xs ys:List V} {us ws:List Value},Vals xs us->Vals ys ws->Vals (xs++ys) (us++ws)
 |_,_,_,_,.nil,s=>s
 |_,_,_,_,.cons r t,s=>.cons r (Vals.append t s)
def jc:Option V->Option Value->Prop
 |some v,some u=>RelV v u
 |none,none=>True
 |_,_=>False
def KV {κ:Type}:List (κ×V)->List (κ×Value)->Prop:=Paired fun(p : κ×V) (q : κ×Value)=>p.1=q.1/\RelV p.2 q.2
def kV:Key->V
 | .inl i=>.int i
 | .inr x=>.str x
inductive HO where
 |lst (xs:List V)
 |tup (xs:List V)
 |dK (kvs:List (Key×V)) | dT (kvs:List (List Key×V))
 |set (S:Int->Bool) (n:Nat)
 |ins (C dx:Addr) (fs:List (Str×V))
 |own (x:Addr)
 |xd (fs:List (Str×V))
 |met (f x:Addr)
 |cF (lo hi:Int)
 |dP (o:Obj) (u:HO)
 |pj (ps:Array Value)
 |ext (φ:Heap->Prop)
abbrev Hp:=Addr->Option HO
def upd (H:Hp)(a:Addr)(o:HO):Hp:=fun b=>if b=a then some o else H b
theorem bO {H:Hp}{a:Addr}{o:HO}:upd H a o a=some o:=by unfold upd;rw[lp rfl]
theorem aQ {H:Hp}{a b:Addr}{o:HO}(h:b ≠ a):upd H a o b=H b:=by unfold upd;rw[mf h]
theorem abQ {H:Hp}{a b:Addr}{o u:HO}(h:H a=some o)(h':H b=some u)(d:o ≠ u):a ≠ b:=by
 intro e;subst e;rw[h]at h';exact d (xw h')
theorem jP {H:Hp}{a b:Addr}{o:HO}(h:H a=some o)(h':H b=none):a ≠ b:=by
 intro e;subst e;rw[h]at h';cases h'
section
variable (P:Program) (w:World)
def cv (H:Hp)(h:Heap)(a:Addr):HO->Prop
 | .lst xs=>xs.length<=sizeLine/\∃ (its:List Value) (n:Nat),Vals xs its/\h.get? a=some { cls:=.type "list",data:=.seq its.toArray n }
 | .tup xs=>xs.length<=sizeLine/\∃ its:List Value,Vals xs its/\IsTup h a its.toArray
 | .dK kvs=>kvs.length<=sizeLine/\(a==sysModules)=false/\∃ vs,KV kvs vs/\h.DictOf (fJ P w) a vs
 | .dT kvs=>kvs.length<=sizeLine/\(a==sysModules)=false/\∃ xs:List (List Key×Addr×Value),
   Paired (fun(p:List Key×V) (q:List Key×Addr×Value)=>p.1=q.1/\H q.2.1=some (.tup (p.1.map kV))/\RelV p.2 q.2.2) kvs xs /\
   ∃ o es ep,h.get? a=some o/\o.ExactDict/\o.data=.dict es ep/\es.toList=xs.map (entryOfKey (tupleKind (fJ P w)))/\(xs.map (·.1)).Nodup
 | .set S n=>h.SetOf (intKind P w) a S n
 | .ins C dx fs=>H dx=some (.own a)/\fs.length<=1000/\dx ≠ a/\h.get? a=some (PySem.W.instObj C dx) /\
   ∃ mA,h.Ns1 dx mA/\(∀ f,jc (fs.lookup f) (mA f))/\PySem.Within mA (fs.map (·.1))
 | .own _=>∃ o,h.get? a=some o
 | .xd fs=>∃ mA,h.Ns1 a mA/\∀ f,jc (fs.lookup f) (mA f)
 | .cF lo hi=>∃ t u v,h.get? a=some { cls:=.type "range",data:=.fields #[.int lo t,.int hi u,.int 1 v] }
 | .dP o u=>h.get? a=some o/\cv H h a u
 | .pj ps=>h.get? a=some { cls:=.none,data:=.fields ps }
 | .met f x=>h.get? a=some (PySem.W.methodObj (.ref f) (.ref x))
 | .ext φ => φ h/\(∃ o,h.get? a=some o)/\∀ h1 h2:Heap,φ h1->(∀ o,h1.get? a=some o->h2.get? a=some o)->φ h2
def cA (H:Hp)(h:Heap):Prop:=∀ a o,H a=some o->cv P w H h a o
end
section
variable {P:Program}{w:World}{H H':Hp}{h h':Heap}{a:Addr}{o:HO}
theorem cv.lt (x:cv P w H h a o):a<h.objs.size:=by
 cases o with
 |lst xs=>obtain⟨_,_,_,_,e⟩:=x;exact xy e
 |tup xs=>obtain⟨_,_,_,p⟩:=x;exact p.lt
 |dK kvs=>obtain⟨_,_,_,_,o,_,_,e,_⟩:=x;exact xy e
 |dT kvs=>obtain⟨_,_,_,_,o,_,_,e,_⟩:=x;exact xy e
 |set S n=>obtain⟨o,_,_,_,e,_⟩:=x;exact xy e
 |ins C dx fs=>obtain⟨_,_,_,e,_⟩:=x;exact xy e
 |own y=>obtain⟨_,e⟩:=x;exact xy e
 |xd fs=>obtain⟨_,⟨_,_,_,e,_⟩,_⟩:=x;exact xy e
 |cF lo hi=>obtain⟨_,_,_,e⟩:=x;exact xy e
 |dP ob u=>obtain⟨e,_⟩:=x;exact xy e
 |pj ps=>exact xy (show h.get? a=some _ from x)
 |met f y=>exact xy (show h.get? a=some _ from x)
 |ext φ => obtain⟨_,⟨_,e⟩,_⟩:=x;exact xy e
theorem Paired.EK {α β:Type}{F G : α->β->Prop}:∀ {l₁:List α} {QC:List β},Paired F l₁ QC->(∀ a b,F a b->G a b)->Paired G l₁ QC
 |_,_,.nil,_=>.nil
 |_,_,.cons r t,f=>.cons (f _ _ r) (Paired.EK t f)
theorem cv.lX (x:cv P w H h a o)(k:∀ b u,(b=a\/H b=some (.own a))->h.get? b=some u->h'.get? b=some u)(ho:∀ b,H b=some (.own a)->H' b=some (.own a))(ht:∀ b xs,H b=some (.tup xs)->H' b=some (.tup xs)):cv P w H' h' a o:=by
 induction o with
 |lst xs=>obtain⟨z,its,n,r,e⟩:=x;exact⟨z,its,n,r,k _ _ (.inl rfl) e⟩
 |tup xs=>obtain⟨z,its,r,ob,e,c⟩:=x;exact⟨z,its,r,ob,k _ _ (.inl rfl) e,c⟩
 |dK kvs=>obtain⟨z,y,vs,r,ob,es,ep,e,c⟩:=x;exact⟨z,y,vs,r,ob,es,ep,k _ _ (.inl rfl) e,c⟩
 |dT kvs =>
  obtain⟨z,y,xs,r,ob,es,ep,e,c⟩:=x;exact⟨z,y,xs,Paired.EK r fun p q z=>⟨z.1,ht _ _ z.2.1,z.2.2⟩,ob,es,ep,k _ _ (.inl rfl) e,c⟩
 |set S n=>obtain⟨ob,es,ep,t,e,c⟩:=x;exact⟨ob,es,ep,t,k _ _ (.inl rfl) e,c⟩
 |ins C dx fs =>
  obtain⟨d,z,ne,e,mA,⟨od,es,ep,e2,c⟩,r⟩:=x;exact⟨ho _ d,z,ne,k _ _ (.inl rfl) e,mA,⟨od,es,ep,k _ _ (.inr d) e2,c⟩,r⟩
 |own y=>obtain⟨ob,e⟩:=x;exact⟨ob,k _ _ (.inl rfl) e⟩
 |xd fs=>obtain⟨mA,⟨od,es,ep,e,c⟩,r⟩:=x;exact⟨mA,⟨od,es,ep,k _ _ (.inl rfl) e,c⟩,r⟩
 |cF lo hi=>obtain⟨t,u,v,e⟩:=x;exact⟨t,u,v,k _ _ (.inl rfl) e⟩
 |dP ob u ih=>obtain⟨e,q⟩:=x;exact⟨k _ _ (.inl rfl) e,ih q⟩
 |pj ps =>
  have e:h.get? a=some { cls:=.none,data:=.fields ps }:=x;show h'.get? a=some { cls:=.none,data:=.fields ps };exact k a _ (.inl rfl) e
 |met f y =>
  have e:h.get? a=some (PySem.W.methodObj (.ref f) (.ref y)):=x;show h'.get? a=some (PySem.W.methodObj (.ref f) (.ref y));exact k a _ (.inl rfl) e
 |ext φ => obtain⟨p,⟨o,e⟩,st⟩:=x;exact⟨st _ _ p fun o q=>k _ _ (.inl rfl) q,⟨o,k _ _ (.inl rfl) e⟩,st⟩
theorem cA.lt (x:cA P w H h)(e:H a=some o):a<h.objs.size:=(x a o e).lt
theorem cA.fresh (x:cA P w H h)(e:h.objs.size<=a):H a=none:=by
 cases q:H a with
 |none=>rfl
 |some u=>exact absurd (AS (x.lt q) e) (YI _)
theorem cA.kept (x:cA P w H h)(k:∀ b u,h.get? b=some u->h'.get? b=some u):cA P w H h':=fun a o e =>
 (x a o e).lX (fun b u _ q=>k b u q) (fun _ q=>q) fun _ _ q=>q
theorem cA.laid (x:cA P w H h)(k:∀ b u,h.get? b=some u->h'.get? b=some u)(hp:h.objs.size<=a)(new:cv P w (upd H a o) h' a o):cA P w (upd H a o) h':=fun b u e=>by
 have hn:=x.fresh hp;by_cases hb:b=a
 ·subst hb;rw[bO]at e;cases e;exact new
 ·rw[aQ hb]at e;exact(x b u e).lX (fun c v _ q=>k c v q) (fun c q=>by rw[aQ (jP q hn)];exact q) fun c xs q=>by rw[aQ (jP q hn)];exact q
end
def Rd (H:Hp)(a:Addr)(u:HO):Prop:=H a=some u\/∃ o,H a=some (.dP o u)
theorem Rd.ok {P:Program}{w:World}{H:Hp}{h:Heap}{a:Addr}{u:HO}(r:Rd H a u)(x:cA P w H h):cv P w H h a u:=by
 rcases r with r | ⟨o,r⟩
 ·exact x a u r
 ·obtain⟨_,q⟩:=x a _ r;exact q
def vz:Option HO->Prop
 |some (.lst _)=>True
 |some (.dK _)=>True
 |some (.dT _)=>True
 |some (.set _ _)=>True
 |some (.ins _ _ _)=>True
 |some (.ext _)=>True
 |_=>False
section
variable {P:Program}{w:World}{H:Hp}{h h':Heap}{x e:Addr}{o':HO}
theorem cA.write (ok:cA P w H h)(mu:vz (H x))(he:e=x\/H e=some (.own x))(k:∀ b u,b ≠ e->h.get? b=some u->h'.get? b=some u)(sY:∃ u,h'.get? e=some u)(new:cv P w (upd H x o') h' x o'):cA P w (upd H x o') h':=fun b u q=>by
 have QD:∀ c y,H c=some (.own y)->c ≠ x:=fun c y r z=>by subst z;rw[r]at mu;exact mu
 have acp:∀ c xs,H c=some (.tup xs)->c ≠ x:=fun c xs r z=>by subst z;rw[r]at mu;exact mu
 by_cases hb:b=x
 ·subst hb;rw[bO]at q;cases q;exact new
 ·rw[aQ hb]at q;by_cases pq:b=e
  ·have q':H b=some (.own x):=by
    rcases he with z | z
    ·exact absurd (pq.trans z) hb
    ·rw[pq];exact z
   rw[q]at q';cases q';obtain⟨v,hv⟩:=sY;exact⟨v,by rw[pq];exact hv⟩
  ·refine(ok b u q).lX (fun c v hc r=>k c v ?_ r) (fun c r=>by rw[aQ (QD c b r)];exact r) fun c xs r=>by rw[aQ (acp c xs r)];exact r
   rcases hc with rfl | hc
   ·exact pq
   ·rintro rfl;rcases he with z | z
    ·exact QD c b hc z
    ·rw[hc]at z;cases z;exact hb rfl
end
structure Un (fs ex:List Addr) (H H':Hp) (h h':Heap):Prop where
 keep:∀ b o,h.get? b=some o->H b=none->b ∉ fs->b ∉ ex->h'.get? b=some o
 slot:∀ b o,h.get? b=some o->H b=none->b ∈ fs->b ∉ ex->∃ sl,h'.get? b=some { o with slots:=sl }
 free:∀ b o,h.get? b=some o->H b=none->b ∉ ex->H' b=none
 there:∀ b o,h.get? b=some o->b ∉ ex->∃ o',h'.get? b=some o'
 kO:∀ b xs,H b=some (.tup xs)->H' b=some (.tup xs)
 jZ:∀ b o u,H b=some (.dP o u)->H' b=some (.dP o u)
 kP:∀ b ps,H b=some (.pj ps)->∃ more,H' b=some (.pj (ps++more))
section
variable {fs fs' ex ex':List Addr}{H H1 H2:Hp}{h h1 h2 h':Heap}{a x e:Addr}{o:HO}
theorem Un.any (u:Un fs ex H H1 h h1){b:Addr}{ob:Obj}(q:h.get? b=some ob)(n:H b=none)(hx:b ∉ ex):∃ sl,h1.get? b=some { ob with slots:=sl }:=by
 by_cases hb:b ∈ fs
 ·exact u.slot b ob q n hb hx
 ·exact⟨ob.slots,u.keep b ob q n hb hx⟩
theorem Un.kept (k:∀ b u,h.get? b=some u->h'.get? b=some u):Un fs ex H H h h' :=
 ⟨fun b ob q _ _ _=>k b ob q,fun b ob q _ _ _=>⟨ob.slots,k b ob q⟩,fun _ _ _ n _=>n,fun b ob q _=>⟨ob,k b ob q⟩,fun _ _ q=>q,fun _ _ _ q=>q,fun _ ps q=>⟨#[],by rw[q];simp⟩⟩
theorem Un.refl:Un fs ex H H h h:=Un.kept fun _ _ q=>q
theorem Un.laid (k:∀ b u,h.get? b=some u->h'.get? b=some u)(hp:h.objs.size<=a)(hn:H a=none):Un fs ex H (upd H a o) h h' where
 keep:=fun b u q _ _ _=>k b u q
 slot:=fun b u q _ _ _=>⟨u.slots,k b u q⟩
 free:=fun b u q n _=>by rw[aQ (Co (AS (xy q) hp))];exact n
 there:=fun b u q _=>⟨u,k b u q⟩
 kO:=fun b xs q=>by rw[aQ (jP q hn)];exact q
 jZ:=fun b u xs q=>by rw[aQ (jP q hn)];exact q
 kP:=fun b ps q=>⟨#[],by rw[aQ (jP q hn),q];simp⟩
theorem Un.write (mu:vz (H x))(he:e=x\/H e=some (.own x))(k:∀ b u,b ≠ e->h.get? b=some u->h'.get? b=some u)(sY:∃ u,h'.get? e=some u):Un fs ex H (upd H x o) h h':=by
 have hx:∀ b,H b=none->b ≠ x:=fun b n z=>by subst z;rw[n]at mu;exact mu
 have hb:∀ b,H b=none->b ≠ e:=fun b n z=>by
  subst z;rcases he with r | r
  ·exact hx b n r
  ·rw[n]at r;cases r
 have hm:∀ b u,H b=some u->¬ vz (some u)->b ≠ x:=fun b u q nm z=>by subst z;rw[q]at mu;exact nm mu
 refine⟨fun b u q n _ _=>k b u (hb b n) q,fun b u q n _ _=>⟨u.slots,k b u (hb b n) q⟩,fun b u q n _=>by rw[aQ (hx b n)];exact n,fun b u q _=>?_,
  fun b xs q=>by rw[aQ (hm b _ q fun z=>z)];exact q,fun b u xs q=>by rw[aQ (hm b _ q fun z=>z)];exact q,fun b ps q=>⟨#[],by rw[aQ (hm b _ q fun z=>z),q];simp⟩⟩
 by_cases pq:b=e
 ·subst pq;exact sY
 ·exact⟨u,k b u pq q⟩
end
def y6 (h:Heap)(H:Hp):List Addr:=(List.range h.objs.size).filter fun a=>(H a).isSome
def lY (h:Heap)(H:Hp):Heap:=PySem.W.hideAll h (y6 h H)
theorem Xl (h:Heap)(H:Hp):(lY h H).objs.size=h.objs.size:=PySem.W.hideAll_size _ _
theorem X8 {h:Heap}{H:Hp}{b:Addr}{o:Obj}(e:h.get? b=some o)(n:H b=none):(lY h H).get? b=some o :=
 PySem.W.hideAll_get _ e fun hm=>by
  have q:(H b).isSome=true:=(AM.mp hm).2;rw[n]at q;simp at q
theorem Zf {h:Heap}{H:Hp}{b:Addr}{o:Obj}(e:(lY h H).get? b=some o):h.get? b=some o/\H b=none:=by
 have e':h.get? b=some o:=PySem.W.of_hideAll (y6 h H) e;refine⟨e',?_⟩;cases q:H b with
 |none=>rfl
 |some x =>
  have hm:b ∈ y6 h H:=AM.mpr ⟨VT.mpr (xy e'),by simp[q]⟩;have z:(lY h H).get? b=none:=PySem.W.hideAll_none (y6 h H) hm;rw[z]at e;cases e
structure Mod (K:Frag) (mg:Str->Option Value) (base:Heap):Prop where
 Fx:K.In base
 glob:base.Ns mainGlobals mg
 blt:∃ mb,base.Ns builtinsNs mb/\∀ x:Str,x ≠ "__name__" -> mb x=bootBuiltins x
 nolimit:base.NoLimit
structure Cx where
 prog:Program
 w:World
 K:Frag
 mg:Str->Option Value
 base:Heap
 A:Around
 N:List Str
 dW:Shared
 uU:Hp
 env:Env
 outer:List Env
 stack:List Env
 ex:List Addr
 fn:Str->Bool
 calm:Bool
 pn:List (Addr×Obj)
 xe:Value->Shared->Prop
def eA (l:List Env):List Addr:=l.filterMap (·.frame)
abbrev Cx.fs (X:Cx):List Addr:=eA X.outer
def jI (sc:Scope)(x:Str):Prop:=sc.names.lookup x=some .local\/sc.names.lookup x=some .cell\/sc.names.lookup x=some .free
def Loc (sc:Scope)(x:Str):Prop:=sc.names.lookup x=some .local\/sc.names.lookup x=some .cell
def Look (env:Env)(h:Heap)(m:Str->Option Value)(x:Str)(u:Value):Prop :=
 (env.kindOf x=some .local/\m x=some u)\/((env.kindOf x=some .cell\/env.kindOf x=some .free)/\∃ c,env.cells.lookup x=some c/\h.IsCell c (some u))
structure Cx.Ok (X:Cx):Prop where
 mod:Mod X.K X.mg X.base
 kind:X.env.scope.kind=.function
 glob:X.env.globals=mainGlobals
 blt:X.env.builtins=builtinsNs
 above:X.dW.heap.objs.size<=X.env.locals
 inj:∀ x y c,X.env.cells.lookup x=some c->X.env.cells.lookup y=some c->x=y
 has:∀ x,(X.env.kindOf x=some .cell\/X.env.kindOf x=some .free)->∃ c,X.env.cells.lookup x=some c
 vA:∀ x c,X.fn x=true->X.env.cells.lookup x=some c->X.dW.heap.objs.size<=c
 hd:X.calm=true->X.A.handled=none
 frames:X.A.frames=some X.stack
 pA:X.stack=X.outer\/(X.stack=X.env::X.outer/\X.env.frame=some X.env.locals)
 Se:∀ b ∈ X.ex,b ≠ X.env.locals/\∀ x c,X.env.cells.lookup x=some c->c ≠ b
 bs:∀ b o,X.base.get? b=some o->X.dW.heap.get? b=some o/\X.uU b=none
 pB:X.base.objs.size<=X.dW.heap.objs.size
 uV:∀ b o,X.base.get? b=some o->b ∉ X.ex
 yH:∀ b ∈ X.ex,b ∉ X.fs
 j4:X.dW.heap.FunFrames X.base X.outer
 sZ:∀ b ∈ X.fs,X.uU b=none
structure Inv (X:Cx) (pins:List (Addr×Obj)) (σ:List (Option V)) (H:Hp) (s:Shared):Prop where
 ok:X.Ok
 os:s.os=X.dW.os
 bare:AllBare s.gens
 base:Un X.fs X.ex X.uU H X.dW.heap s.heap
 loc:∃ m,s.heap.Ns X.env.locals m/\∀ (i:Nat) (x:Str) (v:V),X.N[i]?=some x->σ[i]?=some (some v)->jI X.env.scope x->∃ u,RelV v u/\Look X.env s.heap m x u
 cell:∀ x c,X.env.cells.lookup x=some c->∃ v,s.heap.IsCell c v
 free:H X.env.locals=none
 kL:∀ x c,X.env.cells.lookup x=some c->H c=none
 pin:∀ p ∈ X.pn++pins,s.heap.get? p.1=some p.2/\H p.1=none/\p.1 ≠ X.env.locals/\p.1 ∉ X.fs/\∀ v,p.2.data ≠ .cell v
 aA:cA X.prog X.w H s.heap
 len : σ.length=X.N.length
section
variable {X:Cx}{pins:List (Addr×Obj)}{σ:List (Option V)}{H H':Hp}{s:Shared}{h':Heap}
theorem Cx.Ok.acq (ok:X.Ok){b:Addr}{o:Obj}(e:X.base.get? b=some o):b ∉ X.fs:=fun hb=>by
 have:=(ok.j4.mem hb).1;rw[e]at this;cases this
theorem Inv.bs (I:Inv X pins σ H s):∀ b o,X.base.get? b=some o->s.heap.get? b=some o/\H b=none:=fun b o e =>
 ⟨I.base.keep b o (I.ok.bs b o e).1 (I.ok.bs b o e).2 (I.ok.acq e) (I.ok.uV b o e),I.base.free b o (I.ok.bs b o e).1 (I.ok.bs b o e).2 (I.ok.uV b o e)⟩
theorem Inv.bk (I:Inv X pins σ H s):∀ b o,X.base.get? b=some o->s.heap.get? b=some o:=fun b o e=>(I.bs b o e).1
theorem Inv.mod (I:Inv X pins σ H s):Mod X.K X.mg X.base:=I.ok.mod
theorem Inv.fG (I:Inv X pins σ H s):X.K.In s.heap:=I.ok.mod.Fx.keeps I.bk
theorem Inv.lt (I:Inv X pins σ H s):X.env.locals<s.heap.objs.size:=let ⟨_,hn,_⟩:=I.loc;hn.lt
theorem Inv.sz (I:Inv X pins σ H s):X.dW.heap.objs.size<=s.heap.objs.size:=zd I.ok.above (Nat.le_of_lt I.lt)
theorem Inv.acr (I:Inv X pins σ H s){a:Addr}(h:s.heap.objs.size<=a):a ∉ X.fs:=fun hb=>by
 obtain⟨_,o,ho,_⟩:=I.ok.j4.mem hb;exact absurd (AS (xy ho) (zd I.sz h)) (YI _)
theorem Inv.pC (I:Inv X pins σ H s):∀ x c,X.env.cells.lookup x=some c->c ≠ X.env.locals:=fun x c e z=>by
 obtain⟨v,o,ho,hd⟩:=I.cell x c e;obtain⟨m,⟨o',es,ep,ip,nK,_⟩,_⟩:=I.loc;rw[z,ip]at ho;cases ho;rw[nK]at hd;cases hd
theorem Inv.j4 (I:Inv X pins σ H s):s.heap.FunFrames X.base X.outer:=by
 have all:∀ (l:List Env),(∀ b ∈ eA l,b ∈ X.fs)->X.dW.heap.FunFrames X.base l->s.heap.FunFrames X.base l:=by
  intro l
  induction l with
  |nil=>intro _ _;trivial
  |cons env r ih =>
   intro hs hl;obtain⟨hk,⟨L,o,hf,hn,ho,hd⟩,hr⟩:=hl;have hL:L ∈ X.fs:=hs L (by unfold eA;rw[akl,hf];exact aku);obtain⟨sl,e⟩:=I.base.slot L o ho (I.ok.sZ L hL) hL fun z=>I.ok.yH L z hL
   exact⟨hk,⟨L,_,hf,hn,e,hd⟩,ih (fun b hb=>hs b (by unfold eA;rw[akl,hf];exact ajs _ hb)) hr⟩
 exact all X.outer (fun _ hb=>hb) I.ok.j4
theorem Inv.stack (I:Inv X pins σ H s):s.heap.FunFrames X.base X.stack:=by
 rcases I.ok.pA with e | ⟨e,hf⟩
 ·rw[e];exact I.j4
 ·rw[e];obtain⟨m,hn,_⟩:=I.loc;refine .cons (by rw[I.ok.kind];decide) hf hn ?_ I.j4;exact Heap.get?_none_of_le (zd I.ok.pB I.ok.above)
theorem Inv.uB (I:Inv X pins σ H s):∀ b ∈ eA X.stack,b ∈ X.env.locals::X.fs:=fun b hb=>by
 rcases I.ok.pA with e | ⟨e,hf⟩
 ·rw[e]at hb;exact ajs _ hb
 ·rw[e]at hb;unfold eA at hb;rw[akl,hf]at hb;exact hb
theorem Inv.Nt (I:Inv X pins σ H s):∀ b ∈ eA X.stack,H b=none:=fun b hb=>by
 rcases gr.mp (I.uB b hb)with e | hb
 ·rw[e];exact I.free
 ·obtain⟨_,o,ho,_⟩:=I.ok.j4.mem hb;exact I.base.free b o ho (I.ok.sZ b hb) fun z=>I.ok.yH b z hb
theorem Inv.step {g':Array GenState}{t':Nat}{d':Drawn}{ch:List Addr}(I:Inv X pins σ H s)(jo:∀ b ∈ ch,(b ∈ X.ex\/X.dW.heap.objs.size<=b)/\b ≠ X.env.locals/\(∀ x c,X.env.cells.lookup x=some c->c ≠ b)/\∀ p ∈ X.pn++pins,p.1 ≠ b)(keep:∀ b o,b ≠ X.env.locals->b ∉ X.fs->b ∉ ch->s.heap.get? b=some o->H b=none->h'.get? b=some o)(slot:∀ b o,b ≠ X.env.locals->b ∈ X.fs->b ∉ ch->s.heap.get? b=some o->H b=none->∃ sl,h'.get? b=some { o with slots:=sl })(free:∀ b o,b ∉ ch->s.heap.get? b=some o->H b=none->H' b=none)(there:∀ b o,b ∉ ch->s.heap.get? b=some o->∃ o',h'.get? b=some o')(kO:∀ b xs,H b=some (.tup xs)->H' b=some (.tup xs))(jZ:∀ b o u,H b=some (.dP o u)->H' b=some (.dP o u))(kP:∀ b ps,H b=some (.pj ps)->∃ more,H' b=some (.pj (ps++more)))(ns:∀ m,s.heap.Ns X.env.locals m->h'.Ns X.env.locals m)(aA:cA X.prog X.w H' h')(hg:AllBare g') :
  Inv X pins σ H' { s with heap:=h',gens:=g',drawn:=d',toks:=t' }:=by
 have Sf:∀ b o,X.dW.heap.get? b=some o->b ≠ X.env.locals:=fun b o e=>Co (AS (xy e) I.ok.above)
 have y8:∀ b o,X.dW.heap.get? b=some o->b ∉ X.ex->b ∉ ch:=fun b o e hx hb=>by
  rcases (jo b hb).1 with z | z
  ·exact hx z
  ·exact absurd (AS (xy e) z) (YI _)
 have cellK:∀ x c,X.env.cells.lookup x=some c->∀ v,s.heap.IsCell c v->h'.IsCell c v:=fun x c e v ⟨o,ho,hd⟩=>by
  have vB:c ∉ ch:=fun z=>(jo c z).2.2.1 x c e rfl
  by_cases hc:c ∈ X.fs
  ·obtain⟨sl,q⟩:=slot c o (I.pC x c e) hc vB ho (I.kL x c e);exact⟨_,q,hd⟩
  ·exact⟨o,keep c o (I.pC x c e) hc vB ho (I.kL x c e),hd⟩
 refine⟨I.ok,I.os,hg,⟨fun b o e n hb hx=>?_,fun b o e n hb hx=>?_,fun b o e n hx=>?_,fun b o e hx=>?_,fun b xs e=>kO b xs (I.base.kO b xs e),fun b o xs e=>jZ b o xs (I.base.jZ b o xs e),fun b ps e=>?_⟩,?_,fun x c e=>?_,?_,fun x c e=>?_,fun p hp=>?_,aA,I.len⟩
 ·exact keep b o (Sf b o e) hb (y8 b o e hx) (I.base.keep b o e n hb hx) (I.base.free b o e n hx)
 ·obtain⟨sl,e1⟩:=I.base.slot b o e n hb hx;obtain⟨mC,e2⟩:=slot b _ (Sf b o e) hb (y8 b o e hx) e1 (I.base.free b o e n hx);exact⟨mC,e2⟩
 ·obtain⟨o',e1⟩:=I.base.there b o e hx;exact free b o' (y8 b o e hx) e1 (I.base.free b o e n hx)
 ·obtain⟨o',e1⟩:=I.base.there b o e hx;exact there b o' (y8 b o e hx) e1
 ·obtain⟨m1,e1⟩:=I.base.kP b ps e;obtain⟨m2,e2⟩:=kP b _ e1;exact⟨m1++m2,by rw[e2,Array.append_assoc]⟩
 ·obtain⟨m,hn,hl⟩:=I.loc;refine⟨m,ns m hn,fun i x v e1 e2 e3=>?_⟩;obtain⟨u,r,l⟩:=hl i x v e1 e2 e3;refine⟨u,r,?_⟩;rcases l with l | ⟨k,c,e,z⟩
  ·exact .inl l
  ·exact .inr ⟨k,c,e,cellK x c e _ z⟩
 ·obtain⟨v,z⟩:=I.cell x c e;exact⟨v,cellK x c e v z⟩
 ·obtain⟨m,⟨o,_,_,ho,_⟩,_⟩:=I.loc;exact free _ o (fun z=>(jo _ z).2.1 rfl) ho I.free
 ·obtain⟨v,o,ho,hd⟩:=I.cell x c e;exact free c o (fun z=>(jo c z).2.2.1 x c e rfl) ho (I.kL x c e)
 ·obtain⟨e,n,ne,nf,d⟩:=I.pin p hp;have vB:p.1 ∉ ch:=fun z=>(jo p.1 z).2.2.2 p hp rfl
  exact⟨keep p.1 p.2 ne nf vB e n,free p.1 p.2 vB e n,ne,nf,d⟩
theorem Inv.un {t':Nat}(I:Inv X pins σ H s)(u:Un X.fs [] H H' s.heap h')(aA:cA X.prog X.w H' h'):Inv X pins σ H' { s with heap:=h',toks:=t' }:=by
 obtain⟨m,⟨o,es,ep,ho,r⟩,_⟩:=id I.loc;obtain⟨sl,hL⟩:=u.any ho I.free (by simp);exact I.step (g':=s.gens) (d':=s.drawn) (ch:=[]) (fun _ z=>nomatch z) (fun b o _ hb _ e n=>u.keep b o e n hb (by simp)) (fun b o _ hb _ e n=>u.slot b o e n hb (by simp)) (fun b o _ e n=>u.free b o e n (by simp)) (fun b o _ e=>u.there b o e (by simp)) u.kO u.jZ u.kP (fun m' hm=>by
  obtain⟨o',Fy,Fz,ip,r'⟩:=hm;rw[ho]at ip;cases ip;exact⟨_,Fy,Fz,hL,r'⟩) aA I.bare
theorem Inv.call {g':Array GenState}{t':Nat}{d':Drawn}{ch:List Addr}(I:Inv X pins σ H s)(u:Un (eA X.stack) ch H H' s.heap h')(aA:cA X.prog X.w H' h')(hg:AllBare g')(jo:∀ b ∈ ch,(b ∈ X.ex\/X.dW.heap.objs.size<=b)/\b ≠ X.env.locals/\(∀ x c,X.env.cells.lookup x=some c->c ≠ b)/\∀ p ∈ X.pn++pins,p.1 ≠ b) :
  Inv X pins σ H' { s with heap:=h',gens:=g',drawn:=d',toks:=t' }:=by
 obtain⟨m,⟨o,es,ep,ho,r⟩,_⟩:=id I.loc;obtain⟨sl,hL⟩:=u.any ho I.free fun z=>(jo _ z).2.1 rfl
 exact I.step (ch:=ch) jo (fun b o hL hb hc e n=>u.keep b o e n (fun z=>(gr.mp (I.uB b z)).elim hL hb) hc) (fun b o _ _ hc e n=>u.any e n hc) (fun b o hc e n=>u.free b o e n hc) (fun b o hc e=>u.there b o e hc) u.kO u.jZ u.kP (fun m' hm=>by
  obtain⟨o',Fy,Fz,ip,r'⟩:=hm;rw[ho]at ip;cases ip;exact⟨_,Fy,Fz,hL,r'⟩) aA hg
theorem Inv.turned {t':Nat}{it:Addr}(I:Inv X pins σ H s)(k:∀ b o,b ≠ it->s.heap.get? b=some o->h'.get? b=some o)(hn:H it=none)(hL:it ≠ X.env.locals)(h1:it ∈ X.ex\/X.dW.heap.objs.size<=it)(h2:∀ x c,X.env.cells.lookup x=some c->c ≠ it)(h3:∀ p ∈ X.pn++pins,p.1 ≠ it):Inv X pins σ H { s with heap:=h',toks:=t' }:=by
 have nL:∀ b u,H b=some u->b ≠ it:=fun b u e z=>by rw[z,hn]at e;cases e
 refine I.step (g':=s.gens) (d':=s.drawn) (ch:=[it]) (fun b hb=>?_) (fun b o _ _ hc e _=>k b o (fun z=>hc (by simp[z])) e) (fun b o _ _ hc e _=>⟨o.slots,k b o (fun z=>hc (by simp[z])) e⟩) (fun _ _ _ _ n=>n)
  (fun b o hc e=>⟨o,k b o (fun z=>hc (by simp[z])) e⟩) (fun _ _ e=>e) (fun _ _ _ e=>e) (fun b ps e=>⟨#[],by rw[e];simp⟩) (fun m hm=>?_) (fun b u e=>?_) I.bare
 ·have e:b=it:=by simpa using hb
  subst e;exact⟨h1,hL,h2,h3⟩
 ·obtain⟨o,es,ep,ho,r⟩:=hm;exact⟨o,es,ep,k _ o (Ne.symm hL) ho,r⟩
 ·refine(I.aA b u e).lX (fun c v hc q=>k c v ?_ q) (fun _ q=>q) fun _ _ q=>q
  rcases hc with z | z
  ·rw[z];exact nL b u e
  ·exact nL c _ z
theorem Inv.tok (I:Inv X pins σ H s)(t:Nat):Inv X pins σ H { s with toks:=t }:=I.un (h':=s.heap) (t':=t) Un.refl I.aA
theorem Inv.kept {t':Nat}(I:Inv X pins σ H s)(k:∀ b u,s.heap.get? b=some u->h'.get? b=some u):Inv X pins σ H { s with heap:=h',toks:=t' }:=I.un (Un.kept k) (I.aA.kept k)
theorem Inv.laid {a:Addr}{o:HO}{t':Nat}(I:Inv X pins σ H s)(k:∀ b u,s.heap.get? b=some u->h'.get? b=some u)(hp:s.heap.objs.size<=a)(new:cv X.prog X.w (upd H a o) h' a o) :
  Inv X pins σ (upd H a o) { s with heap:=h',toks:=t' }:=I.un (Un.laid k hp (I.aA.fresh hp)) (I.aA.laid k hp new)
theorem Inv.write {x e:Addr}{o:HO}{t':Nat}(I:Inv X pins σ H s)(mu:vz (H x))(he:e=x\/H e=some (.own x))(k:∀ b u,b ≠ e->s.heap.get? b=some u->h'.get? b=some u)(sY:∃ u,h'.get? e=some u)(new:cv X.prog X.w (upd H x o) h' x o):Inv X pins σ (upd H x o) { s with heap:=h',toks:=t' }:=I.un (Un.write mu he k sY) (I.aA.write mu he k sY new)
theorem Inv.Nu {PO:List (Addr×Obj)}(I:Inv X pins σ H s)(h:∀ p ∈ PO,s.heap.get? p.1=some p.2/\H p.1=none/\p.1 ≠ X.env.locals/\p.1 ∉ X.fs/\∀ v,p.2.data ≠ .cell v):Inv X PO σ H s :=
 ⟨I.ok,I.os,I.bare,I.base,I.loc,I.cell,I.free,I.kL,fun p hp=>(wb.mp hp).elim (fun z=>I.pin p (nv _ z)) (h p),I.aA,I.len⟩
theorem Mw {N:List Str}(hN:N.Nodup){i j:Nat}{x:Str}(a:N[i]?=some x)(b:N[j]?=some x):i=j:=by
 obtain⟨h1,e1⟩:=ir.mp a;obtain⟨h2,e2⟩:=ir.mp b;exact(List.getElem_inj hN).mp (e1.trans e2.symm)
theorem LU {M:Model}{A:Around}{E:Value->Shared->Prop}{i:Nat}{x:Str}{v:V}{u:Value}{Q:Unit->Shared->Prop}(I:Inv X pins σ H s)(hN:X.N.Nodup)(hi:X.N[i]?=some x)(hx:Loc X.env.scope x)(r:RelV v u)(h:∀ s',Inv X pins (σ.set i (some v)) H s'->(∃ a,Heap.SameBut a s.heap s'.heap/\(a=X.env.locals\/X.env.cells.lookup x=some a))->Q () s')(hf:X.fn x=true\/X.env.scope.names.lookup x=some .local:=by first | exact .inl rfl | exact .inr rfl | assumption):wpAny M A (storeName X.env x u) Q E s:=by
 obtain⟨m,hn,hl⟩:=id I.loc;have acs:(X.env.scope.kind==.class || (X.env.scope.kind==.module&&X.env.locals != X.env.globals))=false:=by rw[I.ok.kind];rfl
 have QE:i < σ.length:=by rw[I.len];exact(ir.mp hi).1
 have pC:=I.pC;have tracked:∀ {a:Addr} {h':Heap},(∃ o,s.heap.get? a=some o/\H a=none)->Heap.SameBut a s.heap h'->cA X.prog X.w H h':=fun {a h'} ha hs b ob e=>by
  obtain⟨_,_,nj⟩:=ha;refine(I.aA b ob e).lX (fun c w' hc q=>(hs.2 c ?_).trans q) (fun _ q=>q) fun _ _ q=>q
  rintro rfl;rcases hc with rfl | hc
  ·rw[nj]at e;cases e
  ·rw[nj]at hc;cases hc
 rcases hx with hk | hk
 ·refine wpAny_storeName_local hk hn (fun h' tf hs=>?_) acs;obtain⟨oL,_,_,mD,_⟩:=id hn;refine h _ ⟨I.ok,I.os,I.bare,⟨fun b o e n hb hx=>?_,fun b o e n hb hx=>?_,I.base.free,fun b o e hx=>?_,I.base.kO,I.base.jZ,I.base.kP⟩,⟨_,tf,fun j y v' e1 e2 e3=>?_⟩,fun y c e=>?_,I.free,I.kL,fun p hp=>?_,tracked ⟨oL,mD,I.free⟩ hs,by simpa using I.len⟩ ⟨_,hs,.inl rfl⟩
  ·exact(hs.2 b (Co (AS (xy e) I.ok.above))).trans (I.base.keep b o e n hb hx)
  ·obtain⟨sl,e1⟩:=I.base.slot b o e n hb hx;exact⟨sl,(hs.2 b (Co (AS (xy e) I.ok.above))).trans e1⟩
  ·obtain⟨o',e1⟩:=I.base.there b o e hx;exact⟨o',(hs.2 b (Co (AS (xy e) I.ok.above))).trans e1⟩
  ·by_cases hj:j=i
   ·subst hj;rw[hi]at e1;cases e1;rw[LS QE]at e2;cases e2;exact⟨u,r,.inl ⟨hk,by simp⟩⟩
   ·rw[BY (Ne.symm hj)]at e2;obtain⟨u',r',q⟩:=hl j y v' e1 e2 e3;refine⟨u',r',?_⟩;rcases q with⟨k,e⟩ | ⟨k,c,e,z⟩
    ·refine .inl ⟨k,?_⟩;have:y ≠ x:=fun e=>hj (Mw hN e1 (e ▸ hi))
     simp[this,e]
    ·exact .inr ⟨k,c,e,z.sameBut hs (pC y c e)⟩
  ·obtain⟨w',z⟩:=I.cell y c e;exact⟨w',z.sameBut hs (pC y c e)⟩
  ·obtain⟨e,n,ne,nf,d⟩:=I.pin p hp;exact⟨(hs.2 p.1 ne).trans e,n,ne,nf,d⟩
 ·have FA:X.fn x=true:=by
   rcases hf with z | z
   ·exact z
   ·rw[z]at hk;cases hk
  obtain⟨c,hc⟩:=I.ok.has x (.inl hk);obtain⟨w',z⟩:=I.cell x c hc;refine wpAny_storeName_cell I.ok.kind hk hc z (fun h' jJ hs=>?_);obtain⟨oc,Sh,acu⟩:=id z;refine h { s with heap:=h' } ⟨I.ok,I.os,I.bare,⟨fun b o e n hb hx=>?_,fun b o e n hb hx=>?_,I.base.free,fun b o e hx=>?_,I.base.kO,I.base.jZ,I.base.kP⟩,⟨m,hn.sameBut hs (Ne.symm (pC x c hc)),fun j y v' e1 e2 e3=>?_⟩,fun y c' e=>?_,I.free,I.kL,fun p hp=>?_,tracked ⟨oc,Sh,I.kL x c hc⟩ hs,by simpa using I.len⟩ ⟨c,hs,.inr hc⟩
  ·exact(hs.2 b (Co (AS (xy e) (I.ok.vA x c FA hc)))).trans (I.base.keep b o e n hb hx)
  ·obtain⟨sl,e1⟩:=I.base.slot b o e n hb hx;exact⟨sl,(hs.2 b (Co (AS (xy e) (I.ok.vA x c FA hc)))).trans e1⟩
  ·obtain⟨o',e1⟩:=I.base.there b o e hx;exact⟨o',(hs.2 b (Co (AS (xy e) (I.ok.vA x c FA hc)))).trans e1⟩
  ·by_cases hj:j=i
   ·subst hj;rw[hi]at e1;cases e1;rw[LS QE]at e2;cases e2;exact⟨u,r,.inr ⟨.inl hk,c,hc,jJ⟩⟩
   ·rw[BY (Ne.symm hj)]at e2;obtain⟨u',r',q⟩:=hl j y v' e1 e2 e3;refine⟨u',r',?_⟩;rcases q with q | ⟨k,c',e,z'⟩
    ·exact .inl q
    ·refine .inr ⟨k,c',e,z'.sameBut hs ?_⟩;rintro rfl;exact hj (Mw hN e1 (I.ok.inj _ _ _ e hc ▸ hi))
  ·by_cases Si:c'=c
   ·subst Si;exact⟨_,jJ⟩
   ·obtain⟨w2,z2⟩:=I.cell y c' e;exact⟨w2,z2.sameBut hs Si⟩
  ·obtain⟨e,n,ne,nf,d⟩:=I.pin p hp;refine⟨(hs.2 p.1 ?_).trans e,n,ne,nf,d⟩;intro q;rw[q,Sh]at e;have q':oc=p.2:=xw e;exact d w' (by rw[<- q'];exact acu)
theorem wW {M:Model}{A:Around}{E:Value->Shared->Prop}{i:Nat}{x:Str}{v:V}{u:Value}{Q:Unit->Shared->Prop}(I:Inv X pins σ H s)(hN:X.N.Nodup)(hi:X.N[i]?=some x)(hx:Loc X.env.scope x)(r:RelV v u)(h:∀ s',Inv X pins (σ.set i (some v)) H s'->Q () s')(hf:X.fn x=true\/X.env.scope.names.lookup x=some .local:=by first | exact .inl rfl | exact .inr rfl | assumption):wpAny M A (storeName X.env x u) Q E s :=
 LU I hN hi hx r (fun s' I' _=>h s' I') hf
theorem Inv.PQ {s':Shared}{ch:List Addr}(I:Inv X pins σ H s)(ho:s'.os=s.os)(u:Un (eA X.stack) ch H H' s.heap s'.heap)(aA:cA X.prog X.w H' s'.heap)(hg:AllBare s'.gens)(jo:∀ b ∈ ch,(b ∈ X.ex\/X.dW.heap.objs.size<=b)/\b ≠ X.env.locals/\(∀ x c,X.env.cells.lookup x=some c->c ≠ b)/\∀ p ∈ X.pn++pins,p.1 ≠ b):Inv X pins σ H' s':=by
 obtain⟨h',g',d',t',o'⟩:=s';have e:o'=s.os:=ho;subst e;exact I.call (g':=g') (t':=t') (d':=d') u aA hg jo
end
abbrev XK:=Value->Option Addr->Hp->Prop
abbrev St:=List (Option V)
abbrev VK:=V->Hp->Prop
abbrev TE:=St->Hp->VK->Prop
abbrev TT:=St->Hp->(Bool->Hp->Prop)->Prop
abbrev TA:=St->Hp->(List V->Hp->Prop)->Prop
structure Ends where
 nx:St->Hp->Prop
 rt:VK
 bk:St->Hp->Prop:=fun _ _=>False
 ct:St->Hp->Prop:=fun _ _=>False
abbrev TS:=Ends->St->Hp->Prop
def EP (X:Cx)(pins:List (Addr×Obj))(σ:St)(Q:VK)(u:Value)(s':Shared):Prop:=∃ v H',Inv X pins σ H' s'/\RelV v u/\Q v H'
def TP (X:Cx)(pins:List (Addr×Obj))(σ:St)(Q:Bool->Hp->Prop)(b:Bool)(s':Shared):Prop:=∃ H',Inv X pins σ H' s'/\Q b H'
def AP (X:Cx)(pins:List (Addr×Obj))(σ:St)(Q:List V->Hp->Prop)(us:List Value)(s':Shared):Prop:=∃ vs H',Inv X pins σ H' s'/\Vals vs us/\Q vs H'
def SP (X:Cx)(pins:List (Addr×Obj))(D:Ends)(f:Flow)(s':Shared):Prop :=
 match f with
 | .next=>∃ aB H',Inv X pins aB H' s'/\D.nx aB H'
 | .brk=>∃ aB H',Inv X pins aB H' s'/\D.bk aB H'
 | .cont=>∃ aB H',Inv X pins aB H' s'/\D.ct aB H'
 | .ret u=>∃ v aB H',Inv X pins aB H' s'/\RelV v u/\D.rt v H'
def PE (X:Cx)(e:Expr)(t:TE):Prop :=
 ∀ (pins:List (Addr×Obj)) (s:Shared) (σ:St) (H:Hp) (Q:VK),Inv X pins σ H s->t σ H Q->wpAny (model X.prog X.w) X.A (eval e X.env) (EP X pins σ Q) X.xe s
def PT (X:Cx)(e:Expr)(t:TT):Prop :=
 ∀ (pins:List (Addr×Obj)) (s:Shared) (σ:St) (H:Hp) (Q:Bool->Hp->Prop),Inv X pins σ H s->t σ H Q->wpAny (model X.prog X.w) X.A (isTrue e X.env (eval e X.env)) (TP X pins σ Q) X.xe s
def PW (X:Cx)(e:Expr)(t:TT):Prop :=
 ∀ (whole:Sem Value) (pins:List (Addr×Obj)) (s:Shared) (σ:St) (H:Hp) (Q:Bool->Hp->Prop),Inv X pins σ H s->t σ H Q->wpAny (model X.prog X.w) X.A (isTrue e X.env whole) (TP X pins σ Q) X.xe s
theorem PW.pt {X:Cx}{e:Expr}{t:TT}(h:PW X e t):PT X e t:=h _
def PA (X:Cx)(es:List Expr)(t:TA):Prop :=
 ∀ (pos:Pos) (pins:List (Addr×Obj)) (s:Shared) (σ:St) (H:Hp) (Q:List V->Hp->Prop),Inv X pins σ H s->t σ H Q->wpAny (model X.prog X.w) X.A (spliced (backTo pos (starEach es X.env))) (AP X pins σ Q) X.xe s
def PS (X:Cx)(st:Stmt)(t:TS):Prop :=
 ∀ (pins:List (Addr×Obj)) (s:Shared) (σ:St) (H:Hp) (D:Ends),Inv X pins σ H s->t D σ H->wpAny (model X.prog X.w) X.A (exec st X.env) (SP X pins D) X.xe s
def fU (X:Cx)(st:List Stmt)(t:TS):Prop :=
 ∀ (pins:List (Addr×Obj)) (s:Shared) (σ:St) (H:Hp) (D:Ends),Inv X pins σ H s->t D σ H->wpAny (model X.prog X.w) X.A (execs st X.env) (SP X pins D) X.xe s
theorem aD {α:Type}{t:Sem α}{Q Q' : α->Shared->Prop}{M:Model}{A:Around}{E:Value->Shared->Prop}{s:Shared}(h:wpAny M A t Q E s)(hQ:∀ a s,Q a s->Q' a s):wpAny M A t Q' E s:=ajC h hQ fun _ _ x=>x
section
variable {X:Cx}
def bU (i:Nat):TE:=fun σ H Q=>∃ v,σ[i]?=some (some v)/\Q v H
def tC (v:V):TE:=fun _ H Q=>Q v H
theorem m4 {i:Nat}{x:Str}{pos:Pos}(hN:X.N[i]?=some x)(hv:jI X.env.scope x)(hd:(x==("__debug__" : Str))=false:=by decide)(gC:(x==("__classdict__" : Str))=false:=by decide):PE X (.Name x pos) (bU i):=by
 intro pins s σ H Q I h;obtain⟨v,e,h⟩:=h;obtain⟨m,hn,hl⟩:=I.loc;obtain⟨u,r,l⟩:=hl i x v hN e hv;have fin:EP X pins σ Q u s:=⟨v,H,I,r,h⟩
 rcases l with⟨hk,hm⟩ | ⟨hk,c,hc,PR⟩
 ·exact wpAny_Name (wpAny_loadName_local I.ok.kind hk hn hm fin) hd
 ·rcases hk with hk | hk
  ·exact wpAny_Name (wpAny_loadName_cell I.ok.kind hk hc PR fin) hd
  ·exact wpAny_Name (wpAny_loadName_free I.ok.kind hk hc PR fin gC) hd
theorem Df {i j pos}:PE X (.Constant (.int i) j pos) (tC (.int i)):=fun _ _ _ H _ I h=>wpAny_Constant_int ⟨.int i,H,I.tok _,⟨_,rfl⟩,h⟩
theorem nk {b j pos}:PE X (.Constant (.bool b) j pos) (tC (.bl b)):=fun _ _ _ H _ I h=>Constant_bool ⟨.bl b,H,I,rfl,h⟩
theorem x5 {j pos}:PE X (.Constant .none j pos) (tC .aH):=fun _ _ _ H _ I h=>Constant_none ⟨.aH,H,I,rfl,h⟩
theorem OA {x j pos}:PE X (.Constant (.str x) j pos) (tC (.str x)):=fun _ _ _ H _ I h=>Calls.Constant_str ⟨.str x,H,I.tok _,⟨_,rfl⟩,h⟩
def Gl (X:Cx)(x:Str):Prop:=X.env.kindOf x=some .globalImplicit
theorem Nv {E:Value->Shared->Prop}{pins:List (Addr×Obj)}{s:Shared}{σ:St}{H:Hp}{x:Str}{u:Value}{pos:Pos}{Q:Value->Shared->Prop}(I:Inv X pins σ H s)(hg:Gl X x)(hm:X.mg x=some u)(h:Q u s)(hd:(x==("__debug__" : Str))=false:=by decide):wpAny (model X.prog X.w) X.A (eval (.Name x pos) X.env) Q E s :=
 Calls.Name_function_global I.ok.kind hg (Calls.loadGlobal_global (by rw[I.ok.glob];exact I.mod.glob.keeps I.bk) hm h) hd
theorem oI {E:Value->Shared->Prop}{pins:List (Addr×Obj)}{s:Shared}{σ:St}{H:Hp}{x:Str}{u:Value}{pos:Pos}{Q:Value->Shared->Prop}(I:Inv X pins σ H s)(hg:Gl X x)(hm:X.mg x=none)(hv:bootBuiltins x=some u)(h:Q u s)(hn:x ≠ "__name__" := by decide)(hd:(x==("__debug__" : Str))=false:=by decide):wpAny (model X.prog X.w) X.A (eval (.Name x pos) X.env) Q E s:=by
 obtain⟨mb,h1,h2⟩:=I.mod.blt;exact Calls.Name_function_global I.ok.kind hg (Calls.loadGlobal_builtin (by rw[I.ok.glob];exact I.mod.glob.keeps I.bk) hm (by rw[I.ok.blt];exact h1.keeps I.bk) ((h2 x hn).trans hv) h) hd
theorem Zg {x:Str}{v:V}{u:Value}{pos:Pos}(hg:Gl X x)(hm:X.mg x=some u)(r:RelV v u)(hd:(x==("__debug__" : Str))=false:=by decide):PE X (.Name x pos) (tC v) :=
 fun _ _ _ H _ I h=>Nv I hg hm ⟨v,H,I,r,h⟩ hd
theorem Zh {x:Str}{v:V}{u:Value}{pos:Pos}(hg:Gl X x)(hm:X.mg x=none)(hv:bootBuiltins x=some u)(r:RelV v u)(hn:x ≠ "__name__" := by decide)(hd:(x==("__debug__" : Str))=false:=by decide):PE X (.Name x pos) (tC v) :=
 fun _ _ _ H _ I h=>oI I hg hm hv ⟨v,H,I,r,h⟩ hn hd
variable {a b:Expr}{ta tb:TE}{pos:Pos}
def PC (X:Cx)(op:CmpOp)(a b:Expr)(t:TE):Prop :=
 ∀ (pins:List (Addr×Obj)) (s:Shared) (σ:St) (H:Hp) (Q:VK),Inv X pins σ H s->t σ H Q ->
  wpAny (model X.prog X.w) X.A (eval a X.env) (fun v bK=>wpAny (model X.prog X.w) X.A (eval b X.env) (fun u lW=>wpAny (model X.prog X.w) X.A (compareOp op v u) (EP X pins σ Q) X.xe lW) X.xe bK) X.xe s
def acv (ta:TE):TE:=fun σ H Q=>ta σ H fun x H1=>Q (.bl (decide (x=.aH))) H1
theorem RelV.X9 {x:V}{v:Value}(r:RelV x v):(v==Value.none)=decide (x=.aH):=by
 cases x with
 |aH=>cases r;rfl
 |bl _=>cases r;rfl
 |int _=>obtain⟨t,rfl⟩:=r;rfl
 |str _=>obtain⟨t,rfl⟩:=r;rfl
 |jm _=>obtain⟨t,rfl⟩:=r;rfl
 |nJ _=>obtain⟨t,rfl⟩:=r;rfl
 |ref _=>cases r;rfl
 |ty _=>cases r;rfl
theorem aam {j pos'}(ha:PE X a ta):PC X .Is a (.Constant .none j pos') (acv ta):=by
 intro pins s σ H Q I h;refine aD (ha pins s σ H _ I h) fun v s1 ⟨x,H1,I1,r1,q1⟩=>?_
 exact Constant_none (is_none_gen ⟨.bl _,H1,I1,by rw[r1.X9];rfl,q1⟩)
def tB (t:TE):TT:=fun σ H Q=>t σ H fun x H1=>∃ c,x=.bl c/\Q c H1
theorem Dg {op:CmpOp}{t:TE}(h:PC X op a b t)(h1:behindInMarks op b=false:=by first | exact aiO _ (by decide) (by decide) | rfl):PT X (.Compare a [op] [b] pos) (tB t):=by
 intro pins s σ H Q I hw;refine wpAny_isTrue_Compare1 (aD (h pins s σ H _ I hw) fun v s1 h1=>aD h1 fun u s2 h2=>aD h2 fun c s3 ⟨x,H1,I1,r1,q1⟩=>?_) h1;obtain⟨d,rfl,q⟩:=q1;cases r1;exact NL ⟨H1,I1,q⟩
theorem uC {e:Expr}{t:TE}(h:PE X e t)(he:∀ whole,isTrue e X.env whole=(do let v <- whole;standAt e.pos;holding [v] (truthy v)):=by intro _;rfl):PT X e (tB t):=by
 intro pins s σ H Q I hw;refine isTrue_plain (aD (h pins s σ H _ I hw) fun v s1 ⟨x,H1,I1,r1,q1⟩=>?_) (he _);obtain⟨d,rfl,q⟩:=q1;cases r1;exact NL ⟨H1,I1,q⟩
variable {tA y9:TT}{rest:List Expr}
def EL (t u:TT):TT:=fun σ H Q=>t σ H fun c H1=>if c=true then u σ H1 Q else Q false H1
def FC (t u:TT):TT:=fun σ H Q=>t σ H fun c H1=>if c=true then Q true H1 else u σ H1 Q
def QF (t:TT):TT:=fun σ H Q=>t σ H fun c H1=>Q (!c) H1
theorem xx (ha:PT X a tA):PW X (.BoolOp .And [a] pos) tA:=by
 intro wh pins s σ H Q I h;refine isTrue_and (aD (ha pins s σ H Q I h) fun c s1 e=>?_);cases c with
 |true=>exact isTrue_and_nil e
 |false=>exact e
theorem OB (ha:PT X a tA):PW X (.BoolOp .Or [a] pos) tA:=by
 intro wh pins s σ H Q I h;refine isTrue_or (aD (ha pins s σ H Q I h) fun c s1 e=>?_);cases c with
 |false=>exact isTrue_or_nil e
 |true=>exact e
theorem uD (ha:PT X a tA)(hb:PW X (.BoolOp .And (b::rest) pos) y9):PW X (.BoolOp .And (a::b::rest) pos) (EL tA y9):=by
 intro wh pins s σ H Q I h;refine isTrue_and (aD (ha pins s σ H _ I h) fun c s1 ⟨H1,I1,q1⟩=>?_);cases c with
 |true=>exact hb wh pins s1 σ H1 Q I1 q1
 |false=>exact⟨H1,I1,q1⟩
theorem D3 (ha:PT X a tA)(hb:PW X (.BoolOp .Or (b::rest) pos) y9):PW X (.BoolOp .Or (a::b::rest) pos) (FC tA y9):=by
 intro wh pins s σ H Q I h;refine isTrue_or (aD (ha pins s σ H _ I h) fun c s1 ⟨H1,I1,q1⟩=>?_);cases c with
 |true=>exact⟨H1,I1,q1⟩
 |false=>exact hb wh pins s1 σ H1 Q I1 q1
theorem Dh (ha:PT X a tA):PT X (.UnaryOp .Not a pos) (QF tA):=by
 intro pins s σ H Q I h;exact isTrue_not (ha pins s σ H (fun c H1=>Q (!c) H1) I h)
def D4 (ta tb:TE):TE:=fun σ H Q=>ta σ H fun x H1=>∃ c,x=.bl c/\if c=true then tb σ H1 Q else Q (.bl false) H1
def ER (ta tb:TE):TE:=fun σ H Q=>ta σ H fun x H1=>∃ c,x=.bl c/\if c=true then Q (.bl true) H1 else tb σ H1 Q
def PU (ta:TE):TE:=fun σ H Q=>ta σ H fun x H1=>∃ c,x=.bl c/\Q (.bl (!c)) H1
theorem aan {op}{t:TE}(h:PE X a t):PE X (.BoolOp op [a] pos) t:=fun pins s σ H Q I hw=>BoolOp_one (h pins s σ H Q I hw)
theorem OC (ha:PE X a ta)(hb:PE X (.BoolOp .And (b::rest) pos) tb):PE X (.BoolOp .And (a::b::rest) pos) (D4 ta tb):=by
 intro pins s σ H Q I h;refine BoolOp_and (aD (ha pins s σ H _ I h) fun v s1 ⟨x,H1,I1,r1,q1⟩=>?_);obtain⟨c,rfl,q1⟩:=q1;cases r1;refine NL ?_;cases c with
 |true=>exact hb pins s1 σ H1 Q I1 q1
 |false=>exact⟨.bl false,H1,I1,rfl,q1⟩
theorem PV (ha:PE X a ta)(hb:PE X (.BoolOp .Or (b::rest) pos) tb):PE X (.BoolOp .Or (a::b::rest) pos) (ER ta tb):=by
 intro pins s σ H Q I h;refine BoolOp_or (aD (ha pins s σ H _ I h) fun v s1 ⟨x,H1,I1,r1,q1⟩=>?_);obtain⟨c,rfl,q1⟩:=q1;cases r1;refine NL ?_;cases c with
 |false=>exact hb pins s1 σ H1 Q I1 q1
 |true=>exact⟨.bl true,H1,I1,rfl,q1⟩
theorem aao (ha:PE X a ta):PE X (.UnaryOp .Not a pos) (PU ta):=by
 intro pins s σ H Q I h;refine UnaryOp_ (aD (ha pins s σ H _ I h) fun v s1 ⟨x,H1,I1,r1,q1⟩=>?_);obtain⟨c,rfl,q1⟩:=q1;cases r1;exact not_of (NL ⟨.bl (!c),H1,I1,rfl,q1⟩)
def FD (t:TT)(ta tb:TE):TE:=fun σ H Q=>t σ H fun c H1=>if c=true then ta σ H1 Q else tb σ H1 Q
theorem Mx {c:Expr}(hc:PT X c tA)(ha:PE X a ta)(hb:PE X b tb):PE X (.IfExp c a b pos) (FD tA ta tb):=by
 intro pins s σ H Q I h;refine wpAny_IfExp (aD (hc pins s σ H _ I h) fun d s1 ⟨H1,I1,q1⟩=>?_);cases d with
 |true=>exact ha pins s1 σ H1 Q I1 q1
 |false=>exact hb pins s1 σ H1 Q I1 q1
end
def aL (K:Frag)(H:Hp)(a:Addr)(xs:List V):Prop :=
 Rd H a (.lst xs) \/
  ∃ (o:Obj) (its:Array Value) (n:Nat),K.lookup a=some o/\o.cls=.type "list" /\ o.dict=none/\o.data=.seq its n/\its.size<=sizeLine/\Vals xs its.toList
def cW (K:Frag)(H:Hp)(a:Addr)(xs:List V):Prop :=
 Rd H a (.tup xs) \/
  ∃ (o:Obj) (its:Array Value) (n:Nat),K.lookup a=some o/\o.cls=.type "tuple" /\ o.data=.seq its n/\its.size<=sizeLine/\Vals xs its.toList
def acw:Value->Option V
 | .none=>some .aH
 | .bool b=>some (.bl b)
 | .int i _=>some (.int i)
 | .str x _=>some (.str x)
 | .bytes b _=>some (.jm b)
 | .float b _=>some (.nJ b)
 | .ref a=>some (.ref a)
 | .type n=>some (.ty n)
 |_=>none
theorem RelV.abs {x:V}{u:Value}(r:RelV x u):acw u=some x:=by
 cases x with
 |aH=>cases r;rfl
 |bl _=>cases r;rfl
 |int _=>obtain⟨t,rfl⟩:=r;rfl
 |str _=>obtain⟨t,rfl⟩:=r;rfl
 |jm _=>obtain⟨t,rfl⟩:=r;rfl
 |nJ _=>obtain⟨t,rfl⟩:=r;rfl
 |ref _=>cases r;rfl
 |ty _=>cases r;rfl
theorem RelV.inj {x y:V}{u:Value}(r:RelV x u)(q:RelV y u):x=y:=xw (r.abs.symm.trans q.abs)
theorem Vals.inj:∀ {xs ys:List V} {us:List Value},Vals xs us->Vals ys us->xs=ys
 |_,_,_,.nil,.nil=>rfl
 |_,_,_,.cons r t,.cons r' t'=>by rw[r.inj r',Vals.inj t t']
section
variable {X:Cx}{pins:List (Addr×Obj)}{σ:St}{H:Hp}{s:Shared}{a:Addr}{xs ys:List V}
theorem aL.of {K:Frag}(h:H a=some (.lst xs)):aL K H a xs:=.inl (.inl h)
theorem cW.of {K:Frag}(h:H a=some (.tup xs)):cW K H a xs:=.inl (.inl h)
theorem Inv.list (I:Inv X pins σ H s)(h:aL X.K H a xs):∃ its:List Value,Vals xs its/\PlainL s.heap a its.toArray/\xs.length<=sizeLine:=by
 rcases h with h | ⟨o,its,n,hk,hc,hd,hs,hz,r⟩
 ·obtain⟨z,its,n,r,e⟩:=h.ok I.aA;exact⟨its,r,⟨_,n,e,rfl,rfl,rfl⟩,z⟩
 ·refine⟨its.toList,r,⟨o,n,I.fG a o hk,hc,hd,by simpa using hs⟩,?_⟩;have e:=r.length;simp only[WI]at e;omega
theorem Inv.tuple (I:Inv X pins σ H s)(h:cW X.K H a xs):∃ its:List Value,Vals xs its/\IsTup s.heap a its.toArray/\xs.length<=sizeLine:=by
 rcases h with h | ⟨o,its,n,hk,hc,hs,hz,r⟩
 ·obtain⟨z,its,r,p⟩:=h.ok I.aA;exact⟨its,r,p,z⟩
 ·refine⟨its.toList,r,⟨o,I.fG a o hk,hc,n,by simpa using hs⟩,?_⟩;have e:=r.length;simp only[WI]at e;omega
theorem Inv.My (I:Inv X pins σ H s)(h:aL X.K H a xs)(h':aL X.K H a ys):xs=ys:=by
 obtain⟨its,r,⟨o,n,e,_,_,d⟩,_⟩:=I.list h;obtain⟨its',r',⟨o',n',e',_,_,d'⟩,_⟩:=I.list h';rw[e]at e';cases e';rw[d]at d'
 injection d' with d1 _
 have:its=its':=by simpa using congrArg Array.toList d1
 subst this;exact r.inj r'
theorem Inv.Xm (I:Inv X pins σ H s)(h:cW X.K H a xs)(h':cW X.K H a ys):xs=ys:=by
 obtain⟨its,r,⟨o,e,_,n,d⟩,_⟩:=I.tuple h;obtain⟨its',r',⟨o',e',_,n',d'⟩,_⟩:=I.tuple h';rw[e]at e';cases e';rw[d]at d'
 injection d' with d1 _
 have:its=its':=by simpa using congrArg Array.toList d1
 subst this;exact r.inj r'
end
abbrev Cx.jd (X:Cx)(E:Value->Shared->Prop):Cx:={ X with xe:=E }
abbrev Cx.mE (X:Cx):Cx:=X.jd fun _ _=>False
theorem Cx.Ok.jd {X:Cx}(ok:X.Ok)(E:Value->Shared->Prop):(X.jd E).Ok :=
 ⟨ok.mod,ok.kind,ok.glob,ok.blt,ok.above,ok.inj,ok.has,ok.vA,ok.hd,ok.frames,ok.pA,ok.Se,ok.bs,ok.pB,ok.uV,ok.yH,ok.j4,ok.sZ⟩
theorem Cx.Ok.m5 {X:Cx}{E:Value->Shared->Prop}(ok:(X.jd E).Ok):X.Ok :=
 ⟨ok.mod,ok.kind,ok.glob,ok.blt,ok.above,ok.inj,ok.has,ok.vA,ok.hd,ok.frames,ok.pA,ok.Se,ok.bs,ok.pB,ok.uV,ok.yH,ok.j4,ok.sZ⟩
section
variable {X:Cx}{pins:List (Addr×Obj)}{σ:St}{H:Hp}{s:Shared}{E:Value->Shared->Prop}
theorem Inv.jd (I:Inv X pins σ H s)(E:Value->Shared->Prop):Inv (X.jd E) pins σ H s:=⟨I.ok.jd E,I.os,I.bare,I.base,I.loc,I.cell,I.free,I.kL,I.pin,I.aA,I.len⟩
theorem Inv.m5 (I:Inv (X.jd E) pins σ H s):Inv X pins σ H s:=⟨I.ok.m5,I.os,I.bare,I.base,I.loc,I.cell,I.free,I.kL,I.pin,I.aA,I.len⟩
theorem SP.m5 {D:Ends}{f:Flow}{s':Shared}(h:SP (X.jd E) pins D f s'):SP X pins D f s':=by
 cases f with
 |next=>obtain⟨aB,H',I,q⟩:=h;exact⟨aB,H',I.m5,q⟩
 |brk=>obtain⟨aB,H',I,q⟩:=h;exact⟨aB,H',I.m5,q⟩
 |cont=>obtain⟨aB,H',I,q⟩:=h;exact⟨aB,H',I.m5,q⟩
 |ret u=>obtain⟨v,aB,H',I,r,q⟩:=h;exact⟨v,aB,H',I.m5,r,q⟩
theorem fU.mE {st:List Stmt}{t:TS}(h:fU X.mE st t):fU X st t:=fun pins s σ H D I hw =>
 ajC (h pins s σ H D (I.jd _) hw) (fun _ _ q=>q.m5) fun _ _ z=>False.elim z
end
section
variable {X:Cx}{st:Stmt}{rest:List Stmt}{t u:TS}{e:Expr}{te:TE}{pos:Pos}
def PX:TS:=fun D σ H=>D.nx σ H
def je (t u:TS):TS:=fun D σ H=>t { D with nx:=u D } σ H
theorem oA:fU X [] PX:=fun _ _ σ H _ I h=>akm ⟨σ,H,I,h⟩
theorem eY (h1:PS X st t)(h2:fU X rest u):fU X (st::rest) (je t u):=by
 intro pins s σ H D I h;refine wpAny_execs_cons (aD (h1 pins s σ H { D with nx:=u D } I h) fun f s1 q=>?_);cases f with
 |next =>
  obtain⟨aB,H',I',q⟩:=q;exact h2 pins s1 aB H' D I' q
 |ret v=>exact q
 |brk=>exact q
 |cont=>exact q
theorem fB (h1:PS X st t):fU X [st] t:=by
 intro pins s σ H D I h;refine wpAny_execs_cons (aD (h1 pins s σ H D I h) fun f s1 q=>?_);cases f with
 |next=>exact akm q
 |ret v=>exact q
 |brk=>exact q
 |cont=>exact q
theorem Inv.quiet {pins:List (Addr×Obj)}{σ:St}{H:Hp}{s:Shared}(I:Inv X pins σ H s):interactive X.env=false:=by simp[interactive,I.ok.kind]
def sA (te:TE):TS:=fun D σ H=>te σ H fun _ H1=>D.nx σ H1
theorem ug (he:PE X e te)(hs:swapsWith e none pos.line X.env=pure false:=by rfl):PS X (.Expr e pos) (sA te):=by
 intro pins s σ H D I h;exact wpAny_Expr_any (aD (he pins s σ H _ I h) fun v s1 ⟨x,H1,I1,r1,q1⟩=>⟨σ,H1,I1,q1⟩) I.quiet hs
def yI (te:TE):TS:=fun D σ H=>te σ H D.rt
theorem jT (he:PE X e te):PS X (.Return (some e) pos) (yI te):=by
 intro pins s σ H D I h;exact wpAny_Return_some (aD (he pins s σ H _ I h) fun v s1 ⟨x,H1,I1,r1,q1⟩=>⟨x,σ,H1,I1,r1,q1⟩)
def EV (c:TT)(t u:TS):TS:=fun D σ H=>c σ H fun b H1=>if b=true then t D σ H1 else u D σ H1
theorem nq {c:Expr}{a b:List Stmt}{tc:TT}(hc:PT X c tc)(ha:fU X a t)(hb:fU X b u):PS X (.If c a b pos) (EV tc t u):=by
 intro pins s σ H D I h;refine wpAny_If (aD (hc pins s σ H _ I h) fun d s1 ⟨H1,I1,q1⟩=>?_);cases d with
 |true=>exact ha pins s1 σ H1 D I1 q1
 |false=>exact hb pins s1 σ H1 D I1 q1
def x6:TS:=fun _ _ _=>False
theorem BC {cB:List Stmt}:fU X cB x6:=fun _ _ _ _ _ _ h=>h.elim
end
abbrev TG:=V->St->Hp->(St->Hp->Prop)->Prop
abbrev pD:=List V->St->Hp->(St->Hp->Prop)->Prop
def PG (X:Cx)(target:Expr)(t:TG):Prop :=
 ∀ (pins:List (Addr×Obj)) (s:Shared) (σ:St) (H:Hp) (v:V) (u:Value) (Q:St->Hp->Prop),Inv X pins σ H s->RelV v u->t v σ H Q ->
  wpAny (model X.prog X.w) X.A (assign target X.env u) (fun _ s'=>∃ aB H',Inv X pins aB H' s'/\Q aB H') X.xe s
def za (X:Cx)(ts:List Expr)(t:pD):Prop :=
 ∀ (pins:List (Addr×Obj)) (s:Shared) (σ:St) (H:Hp) (vs:List V) (us:List Value) (Q:St->Hp->Prop),Inv X pins σ H s->Vals vs us->t vs σ H Q ->
  wpAny (model X.prog X.w) X.A (assignInOrder ((assignEach ts X.env).map (·.2)) us) (fun _ s'=>∃ aB H',Inv X pins aB H' s'/\Q aB H') X.xe s
abbrev EW:=V->V->V->Hp->(Hp->Prop)->Prop
def QG (X:Cx)(t:EW):Prop :=
 ∀ (pins:List (Addr×Obj)) (s:Shared) (σ:St) (H:Hp) (o i v:V) (ov iv u:Value) (Q:Hp->Prop),Inv X pins σ H s->RelV o ov->RelV i iv->RelV v u->t o i v H Q ->
  wpAny (model X.prog X.w) X.A (setItem ov iv u) (fun _ s'=>∃ H',Inv X pins σ H' s'/\Q H') X.xe s
section
variable {X:Cx}{pos:Pos}
def cO (i:Nat):TG:=fun v σ H Q=>Q (σ.set i (some v)) H
theorem gK {i:Nat}{x:Str}(hN:X.N.Nodup)(hi:X.N[i]?=some x)(hx:Loc X.env.scope x)(hf:X.fn x=true\/X.env.scope.names.lookup x=some .local:=by first | exact .inl rfl | exact .inr rfl | assumption):PG X (.Name x pos) (cO i):=by
 intro pins s σ H v u Q I r h;exact wpAny_assign_Name (wW I hN hi hx r (fun s' I'=>⟨_,H,I',h⟩) hf)
def yJ:pD:=fun vs σ H Q=>vs=[]/\Q σ H
def nr (t:TG)(u:pD):pD:=fun vs σ H Q=>∃ v r,vs=v::r/\t v σ H fun aB H'=>u r aB H' Q
theorem xA:za X [] yJ:=by
 intro pins s σ H vs us Q I r h;obtain⟨e,h⟩:=h;subst e;cases r;exact assignInOrder_nil ⟨σ,H,I,h⟩
theorem lJ {e:Expr}{es:List Expr}{t:TG}{u:pD}(h1:PG X e t)(h2:za X es u)(hs:(assignEach (e::es) X.env).map (·.2)=assign e X.env::(assignEach es X.env).map (·.2):=by rfl):za X (e::es) (nr t u):=by
 intro pins s σ H vs us Q I r h;obtain⟨v,vr,e1,h⟩:=h;subst e1;cases r with
 |cons r rr =>
  rw[hs];refine assignInOrder_cons (aD (h1 pins s σ H _ _ _ I r h) fun _ s1 ⟨aN,H1,I1,q1⟩=>?_);exact h2 pins s1 aN H1 _ _ Q I1 rr q1
def yK (K:Frag)(n:Nat)(t:pD):TG:=fun v σ H Q=>∃ a xs,v=.ref a/\cW K H a xs/\xs.length=n/\t xs σ H Q
theorem x8 {es:List Expr}{k:Nat}{t:pD}{n:Nat}(hc:X.calm=true)(h:za X es t)(hn:(assignEach es X.env).length=n:=by rfl)(FE:(assignEach es X.env).findIdx? (·.1)=none:=by rfl):PG X (.Tuple es k pos) (yK X.K n t):=by
 intro pins s σ H v u Q I r hw;obtain⟨a,xs,e1,hq,hl,hw⟩:=hw;subst e1;cases r;obtain⟨its,rv,ht,hz⟩:=I.tuple hq;refine assign_Tuple_tuple (I.ok.hd hc) ht (by simp[hn,<- hl,rv.length]) FE fun h' hx=>?_
 have I1:Inv X pins σ H { s with heap:=h' }:=I.kept (t':=s.toks) fun b o e=>hx b o (Co (xy e)) e
 exact h pins _ σ H xs _ Q I1 (by simpa using rv) hw
def nD (to ti:TE)(t:EW):TG:=fun v σ H Q=>to σ H fun o H1=>ti σ H1 fun i H2=>t o i v H2 fun H3=>Q σ H3
theorem rZ {o i:Expr}{to ti:TE}{t:EW}(ho:PE X o to)(hi:PE X i ti)(hs:QG X t)(ha:∀ v,assign (.Subscript o i pos) X.env v=(do
   let ov <- holding [v] (eval o X.env)
   let iv <- holding [v,ov] (eval i X.env)
   standAt pos
   holding [v,ov,iv] (setItem ov iv v)
   release [v,ov,iv] []):=by intro _;rfl):PG X (.Subscript o i pos) (nD to ti t):=by
 intro pins s σ H v u Q I r h;rw[ha];refine ff (ajm (aD (ho pins s σ H _ I h) fun ov s1 ⟨x,H1,I1,r1,q1⟩=>?_));refine ff (ajm (aD (hi pins s1 σ H1 _ I1 q1) fun iv s2 ⟨y,H2,I2,r2,q2⟩=>?_));refine ff (akT (ff (ajm (aD (hs pins s2 σ H2 x y v ov iv u _ I2 r1 r2 r q2) fun _ s3 ⟨H3,I3,q3⟩=>?_))));exact wpAny_release ⟨σ,H3,I3,q3⟩
def j5 (te:TE)(g:TG):TS:=fun D σ H=>te σ H fun x H1=>g x σ H1 D.nx
theorem oJ {tg e:Expr}{te:TE}{g:TG}(he:PE X e te)(hg:PG X tg g)(hs:swapsWithSole [tg] e pos.line X.env=pure false:=by rfl)(hw:swappedStores [tg] e X.env=pure none:=by rfl)(h1:(assignEach [tg] X.env).map (·.2)=[assign tg X.env]:=by rfl):PS X (.Assign [tg] e pos) (j5 te g):=by
 intro pins s σ H D I h;refine wpAny_Assign_stores (aD (he pins s σ H _ I h) fun v s1 ⟨x,H1,I1,r1,q1⟩=>?_) hs hw;rw[h1];exact aD (hg pins s1 σ H1 x v _ I1 r1 q1) fun _ s2 q=>q
theorem oK {i:Nat}{x:Str}{e:Expr}{te:TE}{pos':Pos}(hN:X.N.Nodup)(hi:X.N[i]?=some x)(hx:Loc X.env.scope x)(he:PE X e te)(hs:swapsWith e (some (.Name x pos')) pos.line X.env=pure false:=by rfl)(hf:X.fn x=true\/X.env.scope.names.lookup x=some .local:=by first | exact .inl rfl | exact .inr rfl | assumption) :
  PS X (.Assign [.Name x pos'] e pos) (j5 te (cO i)):=by
 intro pins s σ H D I h;refine wpAny_Assign_Name (aD (he pins s σ H _ I h) fun v s1 ⟨y,H1,I1,r1,q1⟩=>?_) hs;exact wW I1 hN hi hx r1 (fun s2 I2=>⟨_,H1,I2,q1⟩) hf
def QH (i j:Nat)(ta:TA):TS:=fun D σ H=>ta σ H fun vs H1=>∃ v w,vs=[v,w]/\D.nx ((σ.set i (some v)).set j (some w)) H1
theorem aap {i j:Nat}{x y:Str}{a b:Expr}{ta:TA}{px py pt:Pos}{kt k2 pE}(hc:X.calm=true)(hN:X.N.Nodup)(hi:X.N[i]?=some x)(hj:X.N[j]?=some y)(dZ:i ≠ j)(hx:X.env.scope.names.lookup x=some .local)(hy:X.env.scope.names.lookup y=some .local)(ha:PA X [a,b] ta)(hw:swappedStores [.Tuple [.Name x px,.Name y py] kt pt] (.Tuple [a,b] k2 pE) X.env=pure (some [x,y]))(hs:swapsWithSole [.Tuple [.Name x px,.Name y py] kt pt] (.Tuple [a,b] k2 pE) pos.line X.env=pure false:=by rfl) :
  PS X (.Assign [.Tuple [.Name x px,.Name y py] kt pt] (.Tuple [a,b] k2 pE) pos) (QH i j ta):=by
 intro pins s σ H D I h;rw[exec_Assign_arm];refine ff (akT ?_);rw[hs];refine ff (xp ?_);rw[mf (by decide)];refine ff (Tuple_ (aD (ha _ pins s σ H _ I h) fun us s1 ⟨vs,H1,I1,r1,q1⟩=>?_));obtain⟨v,w,e1,q1⟩:=q1;subst e1;obtain⟨u1,u2,rfl,rv,iq⟩:∃ u1 u2,us=[u1,u2]/\RelV v u1/\RelV w u2:=by
  cases r1 with
  |cons p q =>
   cases q with
   |cons p' q' =>
    cases q'
    exact⟨_,_,rfl,p,p'⟩
 refine abc ?_ (by show 2<=sizeLine;decide);have I2:Inv X pins σ H1 { s1 with heap:=s1.heap.push { cls:=.type "tuple",data:=.seq [u1,u2].toArray } }:=I1.kept (t':=s1.toks) fun b o e=>Cc _ e
 rw[hw];refine ff (xp ?_);show wpAny (model X.prog X.w) X.A (do rule "assign.swapped-stores"; let items <- unpackItems (.ref s1.heap.objs.size) 2 none;assignInOrder [fun v=>bindName X.env y v,fun v=>bindName X.env x v] items.reverse;pure Flow.next) _ _ _;refine ff (wpAny_rule (ff (unpackItems_tuple (items:=#[u1,u2]) (I.ok.hd hc) (IsTup.new s1.heap _) fun h' iN=>?_)));have I3:=I2.kept (h':=h') (t':=s1.toks) fun b o e=>iN b o (Co (xy e)) e
 show wpAny _ _ (assignInOrder [fun v=>bindName X.env y v,fun v=>bindName X.env x v] [u2,u1] >>= fun _=>pure Flow.next) _ _ _;refine ff (assignInOrder_cons (wpAny_bindName (wW I3 hN hj (.inl hy) iq (fun s2 I4=>?_) (.inr hy))));refine assignInOrder_cons (wpAny_bindName (wW I4 hN hi (.inl hx) rv (fun s3 I5=>assignInOrder_nil (xp ?_)) (.inr hx)));rw[List.set_comm _ _ (Ne.symm dZ)]at I5;exact⟨_,H1,I5,q1⟩
end
section
variable {X:Cx}{pos:Pos}
def OD (c:TT)(tb:TS):TS:=fun D σ H=>∃ W:Nat->St->Hp->Prop,(∃ m,W m σ H)/\∀ m σ H,W m σ H ->
 c σ H fun b H1=>if b=true then ∃ N:St->Hp->Prop,(∀ aB H',N aB H'->∃ m',m'<m/\W m' aB H')/\tb { D with nx:=N,ct:=N,bk:=D.nx } σ H1 else D.nx σ H1
theorem Mz {c:Expr}{body:List Stmt}{tc:TT}{tb:TS}(hp:PassesOwn (model X.prog X.w) X.A X.env X.xe)(hc:PT X c tc)(hb:fU X body tb):PS X (.While c body [] pos) (OD tc tb):=by
 intro pins s σ H D I h;obtain⟨W,⟨m0,w0⟩,turn⟩:=h;refine wpAny_While (codeAny_whileLoop (fun n s'=>∃ aB H',Inv X pins aB H' s'/\W n aB H') ?_ m0 ⟨σ,H,I,w0⟩);rintro n s1 ⟨aN,H1,I1,w1⟩;refine adm hp (aD (hc pins s1 aN H1 _ I1 (turn n aN H1 w1)) fun b s2 ⟨H2,I2,q2⟩=>?_);cases b with
 |true =>
  obtain⟨N,hN,q2⟩:=q2;rw[lp rfl];refine adm hp (aD (hb pins s2 aN H2 _ I2 q2) fun f s3 q3=>?_);cases f with
  |next =>
   obtain⟨gD,H3,I3,n3⟩:=q3;obtain⟨m',hm,w3⟩:=hN gD H3 n3;exact⟨m',hm,gD,H3,I3,w3⟩
  |cont =>
   obtain⟨gD,H3,I3,n3⟩:=q3;obtain⟨m',hm,w3⟩:=hN gD H3 n3;exact⟨m',hm,gD,H3,I3,w3⟩
  |brk=>exact q3
  |ret v=>exact q3
 |false =>
  rw[mf AE];exact akm ⟨aN,H2,I2,q2⟩
end
structure It where
 go:Nat->Hp->Prop
 nM:Nat->Hp->V->Hp->Prop
 stop:Nat->Hp->Prop
def jf (X:Cx)(pins:List (Addr×Obj))(H:Hp)(b:Addr):Prop :=
 H b=none/\b ≠ X.env.locals/\b ∉ X.fs/\(b ∈ X.ex\/X.dW.heap.objs.size<=b)/\(∀ x c,X.env.cells.lookup x=some c->c ≠ b)/\∀ p ∈ X.pn++pins,p.1 ≠ b
theorem Inv.uW {X:Cx}{pins:List (Addr×Obj)}{σ:St}{H H':Hp}{s:Shared}{b:Addr}(I:Inv X pins σ H s)(hb:s.heap.objs.size<=b)(hn:H' b=none):jf X pins H' b:=by
 refine⟨hn,aj1 (AS I.lt hb),I.acr hb,.inr (zd I.sz hb),fun x c e z=>?_,fun p hp z=>?_⟩
 ·obtain⟨v,q⟩:=I.cell x c e;exact absurd (AS q.lt (by rw[z];exact hb)) (YI _)
 ·exact absurd (AS (xy (I.pin p hp).1) (by rw[z];exact hb)) (YI _)
structure Turn (P:Program) (w:World) (K:Frag) (tg:Expr) (J:It) (fp:List Addr) (it:Addr) (tn:Nat->Heap->Prop):Prop where
 mem:it ∈ fp
 obj:∀ i h,tn i h->∀ b ∈ fp,∃ o,h.get? b=some o/\∀ v,o.data ≠ .cell v
 keep:∀ i h h',tn i h->(∀ b ∈ fp,∀ o,h.get? b=some o->h'.get? b=some o)->tn i h'
 item:∀ (X:Cx),X.prog=P->X.w=w->X.K=K->X.calm=true->∀ (i:Nat) (pins:List (Addr×Obj)) (s:Shared) (σ:St) (H:Hp) (E:Value->Shared->Prop),Inv X pins σ H s->(∀ b ∈ fp,jf X pins H b)->tn i s.heap->J.go i H ->
  wpAny (model P w) X.A (pyNext (.ref it)) (fun r s1=>∃ u,r=some u /\
   wpAny (model P w) X.A (letOwnedTupleGo tg (.ref it) u) (fun _ s2=>∃ x H',Inv X pins σ H' s2/\RelV x u/\J.nM i H x H'/\tn (i+1) s2.heap/\∀ b ∈ fp,H' b=none) E s1) E s
 done:∀ (X:Cx),X.prog=P->X.w=w->X.K=K->X.calm=true->∀ (i:Nat) (pins:List (Addr×Obj)) (s:Shared) (σ:St) (H:Hp) (E:Value->Shared->Prop),Inv X pins σ H s->(∀ b ∈ fp,jf X pins H b)->tn i s.heap->J.stop i H ->
  wpAny (model P w) X.A (pyNext (.ref it)) (fun r s1=>r=none/\Inv X pins σ H s1) E s
 self:∀ (A:Around) (i:Nat) (s:Shared) (Q:Value->Shared->Prop) (E:Value->Shared->Prop),tn i s.heap->Q (.ref it) s->wpAny (model P w) A (pyIter (.ref it)) Q E s
abbrev TI:=St->Hp->(It->Hp->Prop)->Prop
def Sj (X:Cx)(pins:List (Addr×Obj))(σ:St)(tg:Expr)(R:It->Hp->Prop)(zb:Value)(s2:Shared):Prop :=
 ∃ (it:Addr) (fp:List Addr) (tn:Nat->Heap->Prop) (J:It) (H':Hp),zb=.ref it/\Inv X pins σ H' s2/\Turn X.prog X.w X.K tg J fp it tn/\tn 0 s2.heap/\(∀ b ∈ fp,jf X pins H' b)/\R J H'
def PI (X:Cx)(tg iter:Expr)(wi:TI):Prop :=
 ∀ (pins:List (Addr×Obj)) (s:Shared) (σ:St) (H:Hp) (R:It->Hp->Prop),Inv X pins σ H s->wi σ H R ->
  wpAny (model X.prog X.w) X.A (eval iter X.env) (fun v s1=>wpAny (model X.prog X.w) X.A (pyIter v) (Sj X pins σ tg R) X.xe s1) X.xe s
theorem PY {M:Model}{A:Around}{E:Value->Shared->Prop}{s:Shared}{tg:Expr}{it:Addr}{u:Value}{o:Obj}{n:String}{vs:Array Value}{Q:Unit->Shared->Prop}(ho:s.heap.get? it=some o)(hc:o.cls=.type n)(hd:o.data=.fields vs)(hn:["enumerate", "zip", "dict_itemiterator", "dict_reverseitemiterator", "odict_iterator", "itertools.zip_longest", "itertools.pairwise"].contains n=false)(hQ:Q () s):wpAny M A (letOwnedTupleGo tg (.ref it) u) Q E s:=by
 unfold letOwnedTupleGo;cases tg<;>first
  |exact xp hQ
  |(cases u<;>first
    |exact xp hQ
    |(refine ff (wpAny_load ho ?_)
      rw[hc,hd];show wpAny M A (if(["enumerate", "zip", "dict_itemiterator", "dict_reverseitemiterator", "odict_iterator", "itertools.zip_longest", "itertools.pairwise"].contains n&&vs[0]?==some (rawInt _))=true then _ else _) Q E s;rw[mf (by intro h;rw[hn,Bool.false_and]at h;cases h)];exact xp hQ))
def nO (K:Frag)(a:Addr):It :=
 ⟨fun i H=>∃ xs x,aL K H a xs/\xs[i]?=some x,fun i H x H'=>H'=H/\∀ xs,aL K H a xs->xs[i]?=some x,fun i H=>∃ xs,aL K H a xs/\xs.length<=i⟩
def pF (lo:Int)(n:Nat):It:=⟨fun i _=>i<n,fun i H x H'=>H'=H/\x=.int (lo+i),fun i _=>n<=i⟩
theorem Xn {P:Program}{w:World}{K:Frag}{tg:Expr}(a it:Addr):Turn P w K tg (nO K a) [it] it (fun i h=>h.IsListIter it a i) where
 mem:=by simp
 obj:=fun i h st b hb=>by
  have e:b=it:=by simpa using hb
  subst e;obtain⟨o,e,c,d⟩:=st;exact⟨o,e,fun v z=>by rw[d]at z;cases z⟩
 keep:=fun i h h' st k=>st.at fun o e=>k it (by simp) o e
 item:=by
  intro X hP hw hK hc i pins s σ H E I hf st hg;subst hP hw hK;obtain⟨xs,x,hq,hx⟩:=hg;obtain⟨its,rv,p,hz⟩:=I.list hq;obtain⟨u,hu,ru⟩:=rv.get hx;obtain⟨f0,f1,f2,f3,f4,f5⟩:=hf it (by simp);refine wpAny_pyNext_list_item st p.isList (x:=u) (by simpa using hu) fun h' az sb=>?_
  have I1:Inv X pins σ H { s with heap:=h' }:=I.turned (t':=s.toks) (fun b o hb e=>(sb.2 b hb).trans e) f0 f1 f3 f4 f5;obtain⟨o,e,c,d⟩:=id az;exact⟨u,rfl,PY (s:={ s with heap:=h' }) e c d (by decide) ⟨x,H,I1,ru,⟨rfl,fun ys hy=>by rw[I.My hy hq];exact hx⟩,az,fun b hb=>(hf b hb).1⟩⟩
 done:=by
  intro X hP hw hK hc i pins s σ H E I hf st hg;subst hP hw hK;obtain⟨xs,hq,hx⟩:=hg;obtain⟨its,rv,p,hz⟩:=I.list hq;obtain⟨f0,f1,f2,f3,f4,f5⟩:=hf it (by simp);have hl:=rv.length;exact wpAny_pyNext_list_end (I.ok.hd hc) st p.isList (by simp;omega) fun h' eb=>⟨rfl,I.turned (t':=s.toks) (fun b o hb e=>eb b o hb e) f0 f1 f3 f4 f5⟩
 self:=fun _ _ _ _ _ st h=>wpAny_pyIter_listiter st h
theorem WY {P:Program}{w:World}{K:Frag}{tg:Expr}(it:Addr)(lo:Int)(n:Nat):Turn P w K tg (pF lo n) [it] it (fun i h=>IsRangeIter h it (lo+(i:Nat)*1) ((n:Int)-(i:Nat)) 1) where
 mem:=by simp
 obj:=fun i h st b hb=>by
  have e:b=it:=by simpa using hb
  subst e;exact⟨_,st,fun v z=>by
   have z':Data.fields _=Data.cell v:=z;cases z'⟩
 keep:=fun i h h' st k=>k it (by simp) _ st
 item:=by
  intro X hP hw hK hc i pins s σ H E I hf st hg;subst hP hw hK;obtain⟨f0,f1,f2,f3,f4,f5⟩:=hf it (by simp);have W:=Walks.range (prog:=X.prog) (w:=X.w) (I.ok.hd hc) it lo 1 n;refine W.item i s _ _ hg st fun v h' tk hv az kk=>?_
  obtain⟨t,rfl⟩:=hv;have I1:Inv X pins σ H { s with heap:=h',toks:=tk }:=I.turned (fun b o hb e=>kk b o (by simpa using hb) e) f0 f1 f3 f4 f5;refine⟨_,rfl,PY (s:={ s with heap:=h',toks:=tk }) (n := "range_iterator") az rfl rfl (by decide) ⟨.int (lo+i),H,I1,⟨t,?_⟩,⟨rfl,rfl⟩,az,fun b hb=>(hf b hb).1⟩⟩;rw[ai6]
 done:=by
  intro X hP hw hK hc i pins s σ H E I hf st hg;subst hP hw hK;obtain⟨f0,f1,f2,f3,f4,f5⟩:=hf it (by simp);exact wpAny_pyNext_range_end (I.ok.hd hc) st (by have:n<=i:=hg;omega) fun h' eb=>⟨rfl,I.turned (t':=s.toks) (fun b o hb e=>eb b o hb e) f0 f1 f3 f4 f5⟩
 self:=fun _ _ _ _ _ st h=>wpAny_pyIter_rangeiter st h
section
variable {X:Cx}{tg:Expr}
def sC (K:Frag)(tl:TE):TI:=fun σ H R=>tl σ H fun x H1=>∃ a,x=.ref a/\(∃ xs,aL K H1 a xs)/\R (nO K a) H1
theorem rM {l:Expr}{tl:TE}(hl:PE X l tl):PI X tg l (sC X.K tl):=by
 intro pins s σ H R I h;refine aD (hl pins s σ H _ I h) fun v s1 ⟨x,H1,I1,r1,q1⟩=>?_
 obtain⟨a,e,⟨xs,hq⟩,q⟩:=q1;subst e;cases r1;obtain⟨its,rv,p,hz⟩:=I1.list hq;refine akL p.isList ?_;refine⟨s1.heap.objs.size,[s1.heap.objs.size],_,_,H1,rfl,I1.kept (t':=s1.toks) fun b o e=>Cc _ e,Xn a _,⟨_,EO _ rfl,rfl,rfl⟩,fun b hb=>?_,q⟩;have e:b=s1.heap.objs.size:=by simpa using hb
 subst e;exact I1.uW (br _) (I1.aA.fresh (br _))
theorem Yb {pins:List (Addr×Obj)}{σ:St}{H:Hp}{s:Shared}{R:It->Hp->Prop}{E:Value->Shared->Prop}{lo hi:Int}{t u v:Tok}{tk:Nat}(I:Inv X pins σ H s)(h1 : -(2 ^ 62)<=lo)(h2:lo<2 ^ 62)(h3 : -(2 ^ 62)<=hi)(h4:hi<2 ^ 62)(q:R (pF lo (hi-lo).toNat) H):wpAny (model X.prog X.w) X.A (pyIter (.ref s.heap.objs.size)) (Sj X pins σ tg R) E { s with heap:=s.heap.push { cls:=.type "range",data:=.fields #[.int lo t,.int hi u,.int 1 v] },toks:=tk }:=by
 refine wpAny_pyIter_range (IsRange.new ..) (small_one h1 h2 h3 h4) ?_;have I1:Inv X pins σ H { s with heap:=s.heap.push { cls:=.type "range",data:=.fields #[.int lo t,.int hi u,.int 1 v] },toks:=tk }:=I.kept fun b o e=>Cc _ e
 refine⟨(s.heap.push { cls:=.type "range",data:=.fields #[.int lo t,.int hi u,.int 1 v] }).objs.size,[(s.heap.push { cls:=.type "range",data:=.fields #[.int lo t,.int hi u,.int 1 v] }).objs.size],_,_,H,rfl,
  I1.kept (t':=tk) fun b o e=>Cc _ e,WY _ lo (hi-lo).toNat,?_,fun b hb=>?_,q⟩
 ·have e1:lo+((0:Nat):Int)*1=lo:=by simp
  have e2:(((hi-lo).toNat:Nat):Int)-((0:Nat):Int)=Builtin.Range.rangeSize lo hi 1:=by rw[rangeSize_one];split<;>omega
  show IsRangeIter _ _ (lo+((0:Nat):Int)*1) ((((hi-lo).toNat:Nat):Int)-((0:Nat):Int)) 1;rw[e1,e2];exact EO _ rfl
 ·have e:b=(s.heap.push { cls:=.type "range",data:=.fields #[.int lo t,.int hi u,.int 1 v] }).objs.size:=by simpa using hb
  subst e;exact I1.uW (br _) (I1.aA.fresh (br _))
def PZ (ta:TA):TI:=fun σ H R=>ta σ H fun vs H1=>∃ j:Int,vs=[.int j] /\ -(2 ^ 62)<=j/\j<2 ^ 62/\R (pF 0 j.toNat) H1
theorem LV {a:Expr}{ta:TA}{p pos:Pos}(hg:Gl X "range")(hm:X.mg "range" = none)(ha:PA X [a] ta)(hs:starEach [a] X.env=[(false,eval a X.env)]:=by rfl):PI X tg (.Call (.Name "range" p) [a] [] pos) (PZ ta):=by
 intro pins s σ H R I h;refine Call_ (oI I hg hm boot_range (OE (aD (ha pos pins s σ H _ I h) fun us s1 ⟨vs,H1,I1,r1,q1⟩=>?_) hs rfl));obtain⟨j,e,q1,q2,q⟩:=q1;subst e;cases r1 with
 |cons r rr =>
  cases rr
  obtain⟨t,rfl⟩:=r;exact call_range_1 (Yb I1 (by omega) (by omega) q1 q2 (by simpa using q))
def sR (wi:TI)(g:TG)(tb:TS):TS:=fun D σ H=>wi σ H fun J H1=>∃ W:Nat->Nat->St->Hp->Prop,(∃ m,W 0 m σ H1)/\∀ i m σ H,W i m σ H ->
 (J.stop i H/\D.nx σ H)\/(J.go i H/\∃ N:St->Hp->Prop,(∀ aB H',N aB H'->∃ m',m'<m/\W (i+1) m' aB H')/\∀ x H',J.nM i H x H'->g x σ H' fun bE H2=>tb { D with nx:=N,ct:=N,bk:=D.nx } bE H2)
def r9 (fp:List Addr)(h:Heap):List (Addr×Obj):=fp.filterMap fun b=>(h.get? b).map fun o=>(b,o)
theorem qV {fp:List Addr}{h:Heap}{b:Addr}{o:Obj}(hb:b ∈ fp)(e:h.get? b=some o):(b,o) ∈ r9 fp h:=List.mem_filterMap.mpr ⟨b,hb,by rw[e];rfl⟩
theorem Xo {fp:List Addr}{h:Heap}{p:Addr×Obj}(hp:p ∈ r9 fp h):p.1 ∈ fp/\h.get? p.1=some p.2:=by
 obtain⟨b,hb,e⟩:=List.mem_filterMap.mp hp;cases q:h.get? b with
 |none=>rw[q]at e;cases e
 |some o =>
  rw[q]at e;have e':(b,o)=p:=xw e;subst e';exact⟨hb,q⟩
theorem Inv.pinned {pins:List (Addr×Obj)}{σ:St}{H:Hp}{s:Shared}{fp:List Addr}(I:Inv X pins σ H s)(hf:∀ b ∈ fp,jf X pins H b)(ho:∀ b ∈ fp,∃ o,s.heap.get? b=some o/\∀ v,o.data ≠ .cell v):Inv X (pins++r9 fp s.heap) σ H s :=
 I.Nu fun p hp=>(wb.mp hp).elim (fun z=>I.pin p (ij _ z)) fun z=>by
  obtain⟨hb,e⟩:=Xo z;obtain⟨f0,f1,f2,_⟩:=hf p.1 hb;obtain⟨o,e',d⟩:=ho p.1 hb;rw[e]at e';cases e';exact⟨e,f0,f1,f2,d⟩
theorem Inv.t9 {pins pl:List (Addr×Obj)}{σ:St}{H:Hp}{s:Shared}(I:Inv X (pins++pl) σ H s):Inv X pins σ H s:=I.Nu fun p hp=>I.pin p (ij _ (nv _ hp))
theorem m7 {iter:Expr}{body:List Stmt}{wi:TI}{g:TG}{tb:TS}{pos:Pos}(hp:PassesOwn (model X.prog X.w) X.A X.env X.xe)(hc:X.calm=true)(hi:PI X tg iter wi)(hg:PG X tg g)(hb:fU X body tb)(hs:∀ x,foldedSetIterable iter X.env x=pure x:=by intro _;rfl):PS X (.For tg iter body [] pos) (sR wi g tb):=by
 intro pins s σ H D I h;refine wpAny_For (aD (hi pins s σ H _ I h) fun v s1 h1=>aD h1 fun zb s2 h2=>?_) hs;obtain⟨it,fp,tn,J,H2,e,I2,T,bb,f2,W,⟨m0,w0⟩,turn⟩:=h2;subst e;have stat:∀ {H':Hp},(∀ b ∈ fp,H' b=none)->∀ b ∈ fp,jf X pins H' b:=fun hn b hb=>⟨hn b hb,(f2 b hb).2⟩
 refine codeAny_forLoop_any (fun n s'=>∃ i aB H',Inv X pins aB H' s'/\tn i s'.heap/\(∀ b ∈ fp,H' b=none)/\W i n aB H') ?_ m0 ⟨0,σ,H2,I2,bb,fun b hb=>(f2 b hb).1,w0⟩;rintro n s3 ⟨i,gD,H3,I3,gE,Sl,w3⟩;rcases turn i n gD H3 w3 with⟨stop,qn⟩ | ⟨go,N,hN,step⟩
 ·refine adm hp (aD (T.done X rfl rfl rfl hc i pins s3 gD H3 X.xe I3 (stat Sl) gE stop) fun r s4 ⟨hr,I4⟩=>?_);subst hr;exact akm ⟨gD,H3,I4,qn⟩
 ·refine adm hp (aD (T.item X rfl rfl rfl hc i pins s3 gD H3 X.xe I3 (stat Sl) gE go) fun r s4 ⟨u,hr,h4⟩=>?_);subst hr;refine adm hp (aD h4 fun _ s5 ⟨x,H5,I5,r5,y5,mF,pG⟩=>?_);have I5':=I5.pinned (stat pG) (T.obj _ _ mF);refine adm hp (aD (hg _ s5 gD H5 x u _ I5' r5 (step x H5 y5)) fun _ s6 ⟨σ6,H6,I6,q6⟩=>?_);refine adm hp (aD (hb _ s6 σ6 H6 _ I6 q6) fun f s7 q7=>?_);have again:∀ {kc:St} {H7:Hp},Inv X (pins++r9 fp s5.heap) kc H7 s7->N kc H7->∃ m,m<n/\∃ i aB H',Inv X pins aB H' s7/\tn i s7.heap/\(∀ b ∈ fp,H' b=none)/\W i m aB H':=fun {kc H7} I7 n7=>by
   obtain⟨m',hm,w7⟩:=hN kc H7 n7;refine⟨m',hm,i+1,kc,H7,I7.t9,T.keep _ _ _ mF fun b hb o e=>(I7.pin (b,o) (ij _ (ij _ (qV hb e)))).1,fun b hb=>?_,w7⟩;obtain⟨o,e,d⟩:=T.obj _ _ mF b hb;exact(I7.pin (b,o) (ij _ (ij _ (qV hb e)))).2.1
  cases f with
  |next=>obtain⟨kc,H7,I7,n7⟩:=q7;exact again I7 n7
  |cont=>obtain⟨kc,H7,I7,n7⟩:=q7;exact again I7 n7
  |brk=>obtain⟨kc,H7,I7,q7⟩:=q7;exact⟨kc,H7,I7.t9,q7⟩
  |ret v=>obtain⟨x7,kc,H7,I7,r7,q7⟩:=q7;exact⟨x7,kc,H7,I7.t9,r7,q7⟩
end
theorem B5 {K:Frag}{a:Addr}{xs:List V}{g:TG}{tb:TS}{D:Ends}{σ:St}{H:Hp}(Pv:Nat->St->Hp->Prop)(h0:Pv 0 σ H)(hl:∀ i σ H,i<=xs.length->Pv i σ H->aL K H a xs)(hs:∀ i x σ H,xs[i]?=some x->Pv i σ H->g x σ H fun bE H2=>tb { D with nx:=Pv (i+1),ct:=Pv (i+1),bk:=D.nx } bE H2)(hd:∀ σ H,Pv xs.length σ H->D.nx σ H) :
  ∃ W:Nat->Nat->St->Hp->Prop,(∃ m,W 0 m σ H)/\∀ i m σ H,W i m σ H ->
   ((nO K a).stop i H/\D.nx σ H)\/((nO K a).go i H/\∃ N:St->Hp->Prop,(∀ aB H',N aB H'->∃ m',m'<m/\W (i+1) m' aB H')/\∀ x H',(nO K a).nM i H x H'->g x σ H' fun bE H2=>tb { D with nx:=N,ct:=N,bk:=D.nx } bE H2):=by
 refine⟨fun i m σ H=>m=xs.length-i/\i<=xs.length/\Pv i σ H,⟨xs.length,by simp,DO _,h0⟩,?_⟩;rintro i m σ H ⟨rfl,hi,p⟩;have q:=hl i σ H hi p;by_cases aT:i<xs.length
 ·refine .inr ⟨⟨xs,xs[i],q,by simp[aT]⟩,Pv (i+1),fun aB H' p'=>⟨xs.length-(i+1),by omega,rfl,aT,p'⟩,fun x H' y=>?_⟩;obtain⟨e,y⟩:=y;subst e;exact hs i x σ _ (y xs q) p
 ·have e:i=xs.length:=by omega
  subst e;exact .inl ⟨⟨xs,q,br _⟩,hd σ H p⟩
theorem Xp {lo:Int}{n:Nat}{g:TG}{tb:TS}{D:Ends}{σ:St}{H:Hp}(Pv:Nat->St->Hp->Prop)(h0:Pv 0 σ H)(hs:∀ i σ H,i<n->Pv i σ H->g (.int (lo+i)) σ H fun bE H2=>tb { D with nx:=Pv (i+1),ct:=Pv (i+1),bk:=D.nx } bE H2)(hd:∀ σ H,Pv n σ H->D.nx σ H) :
  ∃ W:Nat->Nat->St->Hp->Prop,(∃ m,W 0 m σ H)/\∀ i m σ H,W i m σ H ->
   ((pF lo n).stop i H/\D.nx σ H)\/((pF lo n).go i H/\∃ N:St->Hp->Prop,(∀ aB H',N aB H'->∃ m',m'<m/\W (i+1) m' aB H')/\∀ x H',(pF lo n).nM i H x H'->g x σ H' fun bE H2=>tb { D with nx:=N,ct:=N,bk:=D.nx } bE H2):=by
 refine⟨fun i m σ H=>m=n-i/\i<=n/\Pv i σ H,⟨n,by simp,DO _,h0⟩,?_⟩;rintro i m σ H ⟨rfl,hi,p⟩;by_cases aT:i<n
 ·refine .inr ⟨aT,Pv (i+1),fun aB H' p'=>⟨n-(i+1),by omega,rfl,aT,p'⟩,fun x H' y=>?_⟩;obtain⟨e,y⟩:=y;subst e y;exact hs i σ _ aT p
 ·have e:i=n:=by omega
  subst e;exact .inl ⟨br _,hd σ H p⟩
abbrev R2:=V->V->Hp->VK->Prop
def cX (X:Cx)(f:Value->Value->Sem Value)(r:R2):Prop :=
 ∀ (pins:List (Addr×Obj)) (s:Shared) (σ:St) (H:Hp) (x y:V) (v u:Value) (Q:VK),Inv X pins σ H s->RelV x v->RelV y u->r x y H Q ->
  wpAny (model X.prog X.w) X.A (f v u) (EP X pins σ Q) X.xe s
def FG (X:Cx)(f:Value->Sem Value)(r:V->Hp->VK->Prop):Prop :=
 ∀ (pins:List (Addr×Obj)) (s:Shared) (σ:St) (H:Hp) (x:V) (v:Value) (Q:VK),Inv X pins σ H s->RelV x v->r x H Q ->
  wpAny (model X.prog X.w) X.A (f v) (EP X pins σ Q) X.xe s
def eQ (X:Cx)(f:Value)(r:List V->Hp->VK->Prop):Prop :=
 ∀ (pins:List (Addr×Obj)) (s:Shared) (σ:St) (H:Hp) (xs:List V) (us:List Value) (Q:VK),Inv X pins σ H s->Vals xs us->r xs H Q ->
  wpAny (model X.prog X.w) X.A (call f us) (EP X pins σ Q) X.xe s
def iu (r:R2)(ta tb:TE):TE:=fun σ H Q=>ta σ H fun x H1=>tb σ H1 fun y H2=>r x y H2 Q
def tUn (r:V->Hp->VK->Prop)(ta:TE):TE:=fun σ H Q=>ta σ H fun x H1=>r x H1 Q
def rI (C:Int->Int->Prop)(g:Int->Int->V):R2:=fun x y H Q=>∃ i j,x=.int i/\y=.int j/\C i j/\Q (g i j) H
def mG (g:Int->Int->V):R2:=fun x y H Q=>∃ i j,x=.int i/\y=.int j/\Q (g i j) H
def rU (g:Int->V):V->Hp->VK->Prop:=fun x H Q=>∃ i,x=.int i/\Q (g i) H
section
variable {X:Cx}{a b c:Expr}{ta tb tc:TE}{pos:Pos}
theorem EX (ha:PE X a ta)(hb:PE X b tb){pins:List (Addr×Obj)}{s:Shared}{σ:St}{H:Hp}{R:V->V->Hp->Prop}(I:Inv X pins σ H s)(h:ta σ H fun x H1=>tb σ H1 fun y H2=>R x y H2){Q:Value->Shared->Prop}{f:Value->Value->Sem Value}(hf:∀ v u s2 x y H2,Inv X pins σ H2 s2->RelV x v->RelV y u->R x y H2->wpAny (model X.prog X.w) X.A (f v u) Q X.xe s2) :
  wpAny (model X.prog X.w) X.A (eval a X.env) (fun v bK=>wpAny (model X.prog X.w) X.A (eval b X.env) (fun u lW=>wpAny (model X.prog X.w) X.A (f v u) Q X.xe lW) X.xe bK) X.xe s:=by
 refine aD (ha pins s σ H _ I h) fun v s1 ⟨x,H1,I1,r1,q1⟩=>?_
 refine aD (hb pins s1 σ H1 _ I1 q1) fun u s2 ⟨y,H2,I2,r2,q2⟩=>?_
 exact hf v u s2 x y H2 I2 r1 r2 q2
theorem D5 {op:Operator}{r:R2}(ho:cX X (binaryOp op) r)(ha:PE X a ta)(hb:PE X b tb):PE X (.BinOp a op b pos) (iu r ta tb):=by
 intro pins s σ H Q I h;exact wpAny_BinOp (EX ha hb I h fun v u s2 x y H2 I2 rx ry q=>ho pins s2 σ H2 x y v u Q I2 rx ry q)
theorem abR {op:UnaryOp}{r:V->Hp->VK->Prop}(ho:FG X (unaryOp op) r)(ha:PE X a ta):PE X (.UnaryOp op a pos) (tUn r ta):=by
 intro pins s σ H Q I h;exact UnaryOp_ (aD (ha pins s σ H _ I h) fun v s1 ⟨x,H1,I1,r1,q1⟩=>ho pins s1 σ H1 x v Q I1 r1 q1)
theorem FH {f:Value->Value->Sem Value}{C:Int->Int->Prop}{g:Int->Int->Int}(rule:∀ (i j:Int) (t u:Tok) (s:Shared) (Q:Value->Shared->Prop) (E:Value->Shared->Prop),C i j->Q (.int (g i j) s.toks) { s with toks:=s.toks+1 }->wpAny (model X.prog X.w) X.A (f (.int i t) (.int j u)) Q E s) :
  cX X f (rI C fun i j=>.int (g i j)):=by
 intro pins s σ H x y v u Q I rx ry h;obtain⟨i,j,rfl,rfl,hc,q⟩:=h;obtain⟨t,rfl⟩:=rx;obtain⟨t',rfl⟩:=ry;exact rule i j t t' s _ _ hc ⟨.int (g i j),H,I.tok _,⟨_,rfl⟩,q⟩
theorem QI {f:Value->Value->Sem Value}{g:Int->Int->Int}(rule:∀ (i j:Int) (t u:Tok) (s:Shared) (Q:Value->Shared->Prop) (E:Value->Shared->Prop),Q (.int (g i j) s.toks) { s with toks:=s.toks+1 }->wpAny (model X.prog X.w) X.A (f (.int i t) (.int j u)) Q E s) :
  cX X f (mG fun i j=>.int (g i j)):=by
 intro pins s σ H x y v u Q I rx ry h;obtain⟨i,j,rfl,rfl,q⟩:=h;obtain⟨t,rfl⟩:=rx;obtain⟨t',rfl⟩:=ry;exact rule i j t t' s _ _ ⟨.int (g i j),H,I.tok _,⟨_,rfl⟩,q⟩
theorem yL {f:Value->Value->Sem Value}{g:Int->Int->Bool}(rule:∀ (i j:Int) (t u:Tok) (s:Shared) (Q:Value->Shared->Prop) (E:Value->Shared->Prop),Q (.bool (g i j)) s->wpAny (model X.prog X.w) X.A (f (.int i t) (.int j u)) Q E s) :
  cX X f (mG fun i j=>.bl (g i j)):=by
 intro pins s σ H x y v u Q I rx ry h;obtain⟨i,j,rfl,rfl,q⟩:=h;obtain⟨t,rfl⟩:=rx;obtain⟨t',rfl⟩:=ry;exact rule i j t t' s _ _ ⟨.bl (g i j),H,I,rfl,q⟩
theorem OG:cX X (binaryOp .Add) (mG fun i j=>.int (i+j)):=QI fun _ _ _ _ _ _ _ q=>add_int q
theorem aaq:cX X (binaryOp .Sub) (mG fun i j=>.int (i-j)):=QI fun _ _ _ _ _ _ _ q=>sub_int q
theorem aar:cX X (binaryOp .Mod) (rI (fun _ j=>0<j) fun i j=>.int (i % j)):=FH fun i j _ _ _ _ _ hc q=>by
 have h1:(0:Int)<j:=hc;exact mod_int' (by omega) (by rw[Int.fmod_eq_emod_of_nonneg i (by omega)];exact q)
theorem unI {f:Value->Sem Value}{g:Int->Int}(rule:∀ (i:Int) (t:Tok) (s:Shared) (Q:Value->Shared->Prop) (E:Value->Shared->Prop),Q (.int (g i) s.toks) { s with toks:=s.toks+1 }->wpAny (model X.prog X.w) X.A (f (.int i t)) Q E s) :
  FG X f (rU fun i=>.int (g i)):=by
 intro pins s σ H x v Q I rx h;obtain⟨i,rfl,q⟩:=h;obtain⟨t,rfl⟩:=rx;exact rule i t s _ _ ⟨.int (g i),H,I.tok _,⟨_,rfl⟩,q⟩
theorem aas:FG X (unaryOp .USub) (rU fun i=>.int (-i)):=unI fun _ _ _ _ _ q=>neg_int q
end
def yM:V->V->Bool
 | .aH,.aH=>true | .aH,.int _=>true | .int _,.aH=>true | .aH,.bl _=>true | .bl _,.aH=>true | .aH,.str _=>true | .str _,.aH=>true
 | .int _,.int _=>true | .bl _,.bl _=>true | .str _,.str _=>true | .jm _,.jm _=>true
 | .int _,.str _=>true | .str _,.int _=>true | .bl _,.str _=>true | .str _,.bl _=>true
 |_,_=>false
def rEq:R2:=fun x y H Q=>yM x y=true/\Q (.bl (decide (x=y))) H
def rNe:R2:=fun x y H Q=>yM x y=true/\Q (.bl (!decide (x=y))) H
theorem Nx {i j:Int}:decide (V.int i=V.int j)=(i==j):=by
 rw[WJ];simp
theorem OH {i j:Bool}:decide (V.bl i=V.bl j)=(i==j):=by
 rw[WJ];simp
theorem Ny {i j:Str}:decide (V.str i=V.str j)=(i==j):=by
 rw[WJ];simp
theorem Nz {i j:Array UInt8}:decide (V.jm i=V.jm j)=(i.toList==j.toList):=by
 rw[WJ];cases i;cases j;simp
section
variable {X:Cx}{a b c:Expr}{ta tb tc:TE}{pos:Pos}
theorem cD {pins:List (Addr×Obj)}{σ:St}{H:Hp}{s:Shared}{Q:VK}{k k':Bool}(I:Inv X pins σ H s)(q:Q (.bl k) H)(e:k=k'):EP X pins σ Q (.bool k') s:=by
 subst e;exact⟨.bl k,H,I,rfl,q⟩
theorem D6:cX X (compareOp .Eq) rEq:=by
 intro pins s σ H x y v u Q I rx ry h;obtain⟨hs,q⟩:=h;cases x with
 |aH =>
  cases rx
  cases y with
  |aH=>cases ry;exact PySem.EqNone.eq_none_none (cD I q (by simp))
  |bl j=>cases ry;exact PySem.EqNone.eq_none_bool (cD I q (by simp))
  |int j=>obtain⟨t',rfl⟩:=ry;exact PySem.EqNone.eq_none_int (cD I q (by simp))
  |str j=>obtain⟨t',rfl⟩:=ry;exact PySem.EqNone.eq_none_str (cD I q (by simp))
  |_=>exact absurd (show false=true from hs) AE
 |bl i =>
  cases rx
  cases y with
  |aH=>cases ry;exact PySem.EqNone.eq_bool_none (cD I q (by simp))
  |bl j=>cases ry;exact eq_bool (cD I q OH)
  |str j=>obtain⟨t',rfl⟩:=ry;exact PySem.EqMixed.eq_bool_str (cD I q (by simp))
  |_=>exact absurd (show false=true from hs) AE
 |int i =>
  obtain⟨t,rfl⟩:=rx;cases y with
  |aH=>cases ry;exact PySem.EqNone.eq_int_none (cD I q (by simp))
  |int j=>obtain⟨t',rfl⟩:=ry;exact eq_int (cD I q Nx)
  |str j=>obtain⟨t',rfl⟩:=ry;exact PySem.EqMixed.eq_int_str (cD I q (by simp))
  |_=>exact absurd (show false=true from hs) AE
 |str i =>
  obtain⟨t,rfl⟩:=rx;cases y with
  |aH=>cases ry;exact PySem.EqNone.eq_str_none (cD I q (by simp))
  |bl j=>cases ry;exact PySem.EqMixed.eq_str_bool (cD I q (by simp))
  |int j=>obtain⟨t',rfl⟩:=ry;exact PySem.EqMixed.eq_str_int (cD I q (by simp))
  |str j=>obtain⟨t',rfl⟩:=ry;exact eq_str (cD I q Ny)
  |_=>exact absurd (show false=true from hs) AE
 |jm i =>
  obtain⟨t,rfl⟩:=rx;cases y with
  |jm j=>obtain⟨t',rfl⟩:=ry;exact PySem.W.eq_bytes (cD I q Nz)
  |_=>exact absurd (show false=true from hs) AE
 |_=>cases y<;>exact absurd (show false=true from hs) AE
theorem abS:cX X (compareOp .NotEq) rNe:=by
 intro pins s σ H x y v u Q I rx ry h;obtain⟨hs,q⟩:=h;cases x with
 |aH =>
  cases rx
  cases y with
  |aH=>cases ry;exact PySem.EqNone.ne_none_none (cD I q (by simp))
  |bl j=>cases ry;exact PySem.EqNone.ne_none_bool (cD I q (by simp))
  |int j=>obtain⟨t',rfl⟩:=ry;exact PySem.EqNone.ne_none_int (cD I q (by simp))
  |str j=>obtain⟨t',rfl⟩:=ry;exact PySem.EqNone.ne_none_str (cD I q (by simp))
  |_=>exact absurd (show false=true from hs) AE
 |bl i =>
  cases rx
  cases y with
  |aH=>cases ry;exact PySem.EqNone.ne_bool_none (cD I q (by simp))
  |bl j=>cases ry;exact ne_bool (cD I q (congrArg not OH))
  |str j=>obtain⟨t',rfl⟩:=ry;exact PySem.EqMixed.ne_bool_str (cD I q (by simp))
  |_=>exact absurd (show false=true from hs) AE
 |int i =>
  obtain⟨t,rfl⟩:=rx;cases y with
  |aH=>cases ry;exact PySem.EqNone.ne_int_none (cD I q (by simp))
  |int j=>obtain⟨t',rfl⟩:=ry;exact ne_int (cD I q (congrArg not Nx))
  |str j=>obtain⟨t',rfl⟩:=ry;exact PySem.EqMixed.ne_int_str (cD I q (by simp))
  |_=>exact absurd (show false=true from hs) AE
 |str i =>
  obtain⟨t,rfl⟩:=rx;cases y with
  |aH=>cases ry;exact PySem.EqNone.ne_str_none (cD I q (by simp))
  |bl j=>cases ry;exact PySem.EqMixed.ne_str_bool (cD I q (by simp))
  |int j=>obtain⟨t',rfl⟩:=ry;exact PySem.EqMixed.ne_str_int (cD I q (by simp))
  |str j=>obtain⟨t',rfl⟩:=ry;exact ne_str (cD I q (congrArg not Ny))
  |_=>exact absurd (show false=true from hs) AE
 |jm i =>
  obtain⟨t,rfl⟩:=rx;cases y with
  |jm j=>obtain⟨t',rfl⟩:=ry;exact PySem.W.ne_bytes (cD I q (congrArg not Nz))
  |_=>exact absurd (show false=true from hs) AE
 |_=>cases y<;>exact absurd (show false=true from hs) AE
theorem P0:cX X (compareOp .Lt) (mG fun i j=>.bl (decide (i<j))):=yL fun _ _ _ _ _ _ _ q=>lt_int q
theorem abT:cX X (compareOp .LtE) (mG fun i j=>.bl (decide (i<=j))):=yL fun _ _ _ _ _ _ _ q=>le_int q
theorem P1:cX X (compareOp .Gt) (mG fun i j=>.bl (decide (j<i))):=yL fun _ _ _ _ _ _ _ q=>gt_int q
theorem P2:cX X (compareOp .GtE) (mG fun i j=>.bl (decide (j<=i))):=yL fun _ _ _ _ _ _ _ q=>ge_int q
theorem iG (b:Expr){op:CmpOp}(h:op ≠ .In:=by decide)(h2:op ≠ .NotIn:=by decide):behindInMarks op b=false:=by
 have e1:(op==CmpOp.In)=false:=by cases op<;>first | rfl | exact absurd rfl h
 have e2:(op==CmpOp.NotIn)=false:=by cases op<;>first | rfl | exact absurd rfl h2
 cases b<;>simp[behindInMarks,e1,e2]
theorem Zi {op:CmpOp}{r:R2}(ho:cX X (compareOp op) r)(ha:PE X a ta)(hb:PE X b tb)(hm:behindInMarks op b=false):PE X (.Compare a [op] [b] pos) (iu r ta tb):=by
 intro pins s σ H Q I h;exact wpAny_Compare1 (EX ha hb I h fun v u s2 x y H2 I2 rx ry q=>ho pins s2 σ H2 x y v u Q I2 rx ry q) hm
def P4 (t:TE):TT:=fun σ H Q=>t σ H fun x H'=>∃ k,x=.bl k/\Q k H'
theorem Zj {op:CmpOp}{r:R2}(ho:cX X (compareOp op) r)(ha:PE X a ta)(hb:PE X b tb)(hm:behindInMarks op b=false):PT X (.Compare a [op] [b] pos) (P4 (iu r ta tb)):=by
 intro pins s σ H Q I h;refine wpAny_isTrue_Compare1 (aD (ha pins s σ H _ I h) fun v s1 ⟨x,H1,I1,r1,q1⟩=>aD (hb pins s1 σ H1 _ I1 q1) fun u s2 ⟨y,H2,I2,r2,q2⟩ =>
  aD (ho pins s2 σ H2 x y v u _ I2 r1 r2 q2) fun c s3 ⟨z,H3,I3,r3,k,e,q3⟩=>?_) hm
 subst e;cases r3;exact NL ⟨H3,I3,q3⟩
theorem x9:(sizeLine:Nat)<2 ^ 63:=by rw[sizeLine_eq];decide
theorem vals1 {x:V}{us:List Value}(r:Vals [x] us):∃ u,us=[u]/\RelV x u:=by
 cases r with
 |cons r1 r2=>cases r2;exact⟨_,rfl,r1⟩
theorem vals2 {x y:V}{us:List Value}(r:Vals [x,y] us):∃ u w',us=[u,w']/\RelV x u/\RelV y w':=by
 cases r with
 |cons r1 r2 =>
  cases r2 with
  |cons r3 r4=>cases r4;exact⟨_,_,rfl,r1,r3⟩
theorem Yc:eQ X (.builtin "abs") (fun xs H Q=>∃ i,xs=[.int i]/\Q (.int (if i<0 then -i else i)) H):=by
 intro pins s σ H xs us Q I r h;obtain⟨i,rfl,q⟩:=h;obtain⟨u,rfl,t,rfl⟩:=vals1 r;exact call_abs_int fun u tk=>⟨.int (if i<0 then -i else i),H,I.tok _,⟨_,rfl⟩,q⟩
theorem Xq (hc:X.calm=true):eQ X (.builtin "max") (fun xs H Q=>∃ i j,xs=[.int i,.int j]/\Q (.int (if j > i then j else i)) H):=by
 intro pins s σ H xs us Q I r h;obtain⟨i,j,rfl,q⟩:=h;obtain⟨u,w',rfl,⟨t,rfl⟩,⟨t',rfl⟩⟩:=vals2 r;refine max_two_ints (I.ok.hd hc) fun h' tk k=>⟨_,H,I.kept k,?_,q⟩
 by_cases hj:j > i
 ·rw[lp hj,lp hj];exact⟨_,rfl⟩
 ·rw[mf hj,mf hj];exact⟨_,rfl⟩
theorem Xr (hc:X.calm=true):eQ X (.builtin "min") (fun xs H Q=>∃ i j,xs=[.int i,.int j]/\Q (.int (if j<i then j else i)) H):=by
 intro pins s σ H xs us Q I r h;obtain⟨i,j,rfl,q⟩:=h;obtain⟨u,w',rfl,⟨t,rfl⟩,⟨t',rfl⟩⟩:=vals2 r;refine min_two_ints (I.ok.hd hc) fun h' tk k=>⟨_,H,I.kept k,?_,q⟩
 by_cases hj:j<i
 ·rw[lp hj,lp hj];exact⟨_,rfl⟩
 ·rw[mf hj,mf hj];exact⟨_,rfl⟩
end
structure EY (h:Heap) (x dx C:Addr) (mA:Str->Option Value):Prop where
 obj:h.get? x=some (PySem.W.instObj C dx)
 ns:h.Ns1 dx mA
 ne:dx ≠ x
theorem Xs {h:Heap}{dx:Addr}{mA:Str->Option Value}(n:h.Ns1 dx mA):∃ od,h.get? dx=some od/\∀ name,PySem.W.lookIn name od=some (mA name):=by
 obtain⟨o,es,ep,ho,hd,hk,_,hm⟩:=n;refine⟨o,ho,fun name=>?_⟩;have e:=hm name;unfold nsFind findBy at e;rw[<- Array.find?_toList]at e;unfold PySem.W.lookIn;rw[hd];dsimp only;split
 ·rename_i y q
  rw[q]at e;exact congrArg some e
 ·rename_i q
  rw[q]at e;have a:es.toList.any (·.refKey)=false:=by
   rw[ajX];intro y hy;obtain⟨z,t,EZ⟩:=hk y (Array.mem_toList_iff.mp hy);simp[DictEntry.refKey,EZ]
  have a':¬ es.toList.any (·.refKey)=true:=by rw[a];exact AE
  rw[mf a'];exact congrArg some e
theorem EY.look {h:Heap}{x dx C:Addr}{mA:Str->Option Value}(I:EY h x dx C mA):∃ od,PySem.W.InstAt h x (PySem.W.instObj C dx) C (some od)/\∀ name,PySem.W.lookIn name od=some (mA name) :=
 let ⟨od,ho,hl⟩:=Xs I.ns
 ⟨od,⟨I.obj,rfl,rfl,ho⟩,hl⟩
theorem jc.some_of {v:V}{o:Option Value}(r:jc (some v) o):∃ u,o=some u/\RelV v u:=by
 cases o with
 |none=>exact(show False from r).elim
 |some u=>exact⟨u,rfl,r⟩
section
variable {P:Program}{w:World}{H H':Hp}{h h':Heap}{a C dx:Addr}{fs fs':List (Str×V)}
theorem Zk (aA:cA P w H h)(e:H a=some (.ins C dx fs)):∃ mA,EY h a dx C mA/\(∀ f,jc (fs.lookup f) (mA f))/\PySem.Within mA (fs.map (·.1))/\fs.length<=1000/\H dx=some (.own a):=by
 obtain⟨d,z,ne,ob,mA,n,r,q⟩:=(show cv P w H h a (.ins C dx fs)from aA a _ e)
 exact⟨mA,⟨ob,n,ne⟩,r,q,z,d⟩
end
structure FI (K:Frag) (C:Addr):Prop where
 pg:PySem.W.plainGet K C Str.empty=true
 hd:PySem.W.hasDictIn K C=true
 po:PySem.W.plainOver K C=true
 sa:PySem.W.findIn K (.ref C) "__setattr__" = some (some (.builtin "object.__setattr__"))
theorem FI.get {K:Frag}{C:Addr}(c:FI K C)(f:Str):PySem.W.plainGet K C f=true:=c.pg
section
variable {X:Cx}{pins:List (Addr×Obj)}{σ:St}{H:Hp}{s:Shared}{A:Around}{E:Value->Shared->Prop}{Q:Value->Shared->Prop}{c:Value}{b:Bool}
inductive jF (K:Frag) (H:Hp):V->Value->Prop where
 |aH:jF K H .aH (.type "NoneType")
 |bl (x:Bool):jF K H (.bl x) (.type "bool")
 |int (i:Int):jF K H (.int i) (.type "int")
 |str (x:Str):jF K H (.str x) (.type "str")
 |nJ (x:UInt64):jF K H (.nJ x) (.type "float")
 |lst {a:Addr} {xs:List V} (e:H a=some (.lst xs)):jF K H (.ref a) (.type "list")
 |dP {a:Addr} {o:Obj} {xs:List V} (e:H a=some (.dP o (.lst xs))):jF K H (.ref a) (.type "list")
 |tup {a:Addr} {xs:List V} (e:H a=some (.tup xs)):jF K H (.ref a) (.type "tuple")
 |dK {a:Addr} {kvs:List (Key×V)} (e:H a=some (.dK kvs)):jF K H (.ref a) (.type "dict")
 |dT {a:Addr} {kvs:List (List Key×V)} (e:H a=some (.dT kvs)):jF K H (.ref a) (.type "dict")
 |ins {a C dx:Addr} {fs:List (Str×V)} (e:H a=some (.ins C dx fs)) (cl:FI K C) (ha:PySem.W.findIn K (.ref C) "__class__" = some (some (.builtin "object.__class__")))
   (hn:PySem.W.specialIn K (.builtin "object.__class__") "__get__" = some (some (.builtin "getset_descriptor.__get__"))) (Sn:PySem.W.takesIn K (.builtin "object.__class__")=some true)
   (hm:PySem.W.mroIn K C (.type "object")=some true):jF K H (.ref a) (.ref C)
theorem wJ {x:V}{u t:Value}(I:Inv X pins σ H s)(rx:RelV x u)(ty:jF X.K H x t)(e:PySem.W.kitOne X.K t c=some b)(h:∀ tk,Q (.bool b) { s with toks:=tk }) :
  wpAny (model X.prog X.w) A (call (.builtin "isinstance") [u,c]) Q E s:=by
 cases ty with
 |aH=>cases (show u=Value.none from rx);exact akc PySem.W.kitx_none I.fG True.intro e (fun z=>nomatch z) h
 |bl y=>cases (show u=Value.bool y from rx);exact akc PySem.W.kitx_bool I.fG True.intro e (fun z=>nomatch z) h
 |int i=>obtain⟨t,q⟩:=(show ∃ t,u=Value.int i t from rx);cases q;exact akc PySem.W.kitx_int I.fG True.intro e (fun z=>nomatch z) h
 |str y=>obtain⟨t,q⟩:=(show ∃ t,u=Value.str y t from rx);cases q;exact akc PySem.W.kitx_str I.fG True.intro e (fun z=>nomatch z) h
 |nJ y=>obtain⟨t,q⟩:=(show ∃ t,u=Value.float y t from rx);cases q;exact akc PySem.W.kitx_float I.fG True.intro e (fun z=>nomatch z) h
 | @lst a xs ea =>
  cases (show u=Value.ref a from rx)
  obtain⟨_,_,n,_,h1⟩:=(show cv X.prog X.w H s.heap a (.lst xs)from I.aA a _ ea)
  exact akc akM I.fG ⟨_,h1,rfl⟩ e (fun z=>nomatch z) h
 | @dP a ob xs ea =>
  cases (show u=Value.ref a from rx)
  obtain⟨_,_,_,n,_,h1⟩:=(show cv X.prog X.w H s.heap a (.dP ob (.lst xs))from I.aA a _ ea)
  exact akc akM I.fG ⟨_,h1,rfl⟩ e (fun z=>nomatch z) h
 | @tup a xs ea =>
  cases (show u=Value.ref a from rx)
  obtain⟨_,_,_,p⟩:=(show cv X.prog X.w H s.heap a (.tup xs)from I.aA a _ ea)
  obtain⟨o,h1,h2,_⟩:=p;exact akc PySem.W.kitx_tuple I.fG ⟨o,h1,h2⟩ e (fun z=>nomatch z) h
 | @dK a kvs ea =>
  cases (show u=Value.ref a from rx)
  obtain⟨_,_,vs,_,p⟩:=(show cv X.prog X.w H s.heap a (.dK kvs)from I.aA a _ ea)
  obtain⟨o,es,ep,h1,h2,_⟩:=p;exact akc PySem.W.kitx_dict I.fG ⟨o,h1,h2.1⟩ e (fun z=>nomatch z) h
 | @dT a kvs ea =>
  cases (show u=Value.ref a from rx)
  obtain⟨_,_,xs,_,o,es,ep,h1,h2,_⟩:=(show cv X.prog X.w H s.heap a (.dT kvs)from I.aA a _ ea)
  exact akc PySem.W.kitx_dict I.fG ⟨o,h1,h2.1⟩ e (fun z=>nomatch z) h
 | @ins a C dx fs ea cl ha hn Sn hm =>
  cases (show u=Value.ref a from rx)
  obtain⟨mA,O,_⟩:=Zk I.aA ea;obtain⟨od,J,_⟩:=O.look;exact akc (PySem.W.kitx_own (cl.get _) cl.hd ha hn Sn hm) I.fG J e (fun z=>nomatch z) h
end
structure eh (k:Nat) (A:Around):Prop where
 hd:A.handled=none
 dp:A.depth+3*k+5<recursionLimit
 un:A.units+16*k+200<cLine
theorem eh.mono {j k:Nat}{A:Around}(r:eh k A)(h:j<=k):eh j A:=⟨r.hd,by have:=r.dp;omega,by have:=r.un;omega⟩
theorem eh.deeper {k:Nat}{A:Around}(r:eh (k+1) A)(env:Env):eh k (A.deeper env) :=
 ⟨r.hd,by have:=r.dp;show A.depth+1+3*k+5<_;omega,by have:=r.un;show A.units+3+16*k+200<_;omega⟩
theorem eh.depth {k:Nat}{A:Around}(r:eh k A):A.depth<recursionLimit:=by have:=r.dp;omega
theorem eh.units {k:Nat}{A:Around}(r:eh k A):A.units+64<cLine:=by have:=r.un;omega
def dO:TA:=fun _ H Q=>Q [] H
def dc (ta:TE)(tr:TA):TA:=fun σ H Q=>ta σ H fun x H1=>tr σ H1 fun xs H2=>Q (x::xs) H2
section
variable {X:Cx}{e:Expr}{es:List Expr}{te:TE}{t:TA}{pos:Pos}
theorem cu:PA X [] dO:=fun _ _ _ _ H Q I h=>Calls.spliced_nil ⟨[],H,I,.nil,h⟩
theorem aX (ha:PE X e te)(hr:PA X es t)(hs:starEach (e::es) X.env=(false,eval e X.env)::starEach es X.env:=by rfl):PA X (e::es) (dc te t):=by
 intro pos pins s σ H Q I h;rw[hs];show wpAny _ _ (spliced ((false,eval e X.env)::backTo pos (starEach es X.env))) _ _ s;refine akv (aD (ha pins s σ H _ I h) fun u s1 ⟨x,H1,I1,r1,q1⟩=>?_);exact aD (hr pos pins s1 σ H1 _ I1 q1) fun us s2 ⟨xs,H2,I2,r2,q2⟩=>⟨x::xs,H2,I2,.cons r1 r2,q2⟩
def sS (t:TA):TE:=fun σ H Q=>t σ H fun xs H1=>xs.length<=sizeLine/\∀ p,H1 p=none->Q (.ref p) (upd H1 p (.tup xs))
def QJ (t:TA):TE:=fun σ H Q=>t σ H fun xs H1=>xs.length<=sizeLine/\∀ p,H1 p=none->Q (.ref p) (upd H1 p (.lst xs))
theorem m8 {x1}(h:PA X es t):PE X (.Tuple es x1 pos) (sS t):=by
 intro pins s σ H Q I hq;refine wpAny_Tuple_spliced (aD (h pos pins s σ H _ I hq) fun us s1 ⟨xs,H1,I1,r,z,q⟩=>⟨by rw[<- r.length];exact z,?_⟩);have hf:H1 s1.heap.objs.size=none:=I1.aA.fresh (br _);refine⟨.ref s1.heap.objs.size,upd H1 s1.heap.objs.size (.tup xs),I1.laid (t':=s1.toks) (fun b u e=>Cc _ e) (br _) ?_,rfl,q _ hf⟩;exact⟨z,us,r,⟨_,EO _ rfl,rfl,_,rfl⟩⟩
theorem aat (h:PA X es t):PE X (.List es pos) (QJ t):=by
 intro pins s σ H Q I hq;refine wpAny_List_spliced (aD (h pos pins s σ H _ I hq) fun us s1 ⟨xs,H1,I1,r,z,q⟩=>⟨by rw[<- r.length];exact z,?_⟩);have hf:H1 s1.heap.objs.size=none:=I1.aA.fresh (br _);refine⟨.ref s1.heap.objs.size,upd H1 s1.heap.objs.size (.lst xs),I1.laid (t':=s1.toks) (fun b u e=>Cc _ e) (br _) ?_,rfl,q _ hf⟩;exact⟨z,us,0,r,EO _ rfl⟩
end
abbrev Sp:=List V->Hp->VK->XK->Prop
abbrev iO:=List Env->Hp->Shared->XK->Value->Shared->Prop
structure yN (P:Program) (w:World) (K:Frag) (mg:Str->Option Value) (base:Heap) (A:Around) (outer:List Env) (s:Shared) (H:Hp):Prop where
 frames:A.frames=some outer
 mod:Mod K mg base
 bs:∀ b o,base.get? b=some o->s.heap.get? b=some o/\H b=none
 pB:base.objs.size<=s.heap.objs.size
 j4:s.heap.FunFrames base outer
 sZ:∀ b ∈ eA outer,H b=none
 aA:cA P w H s.heap
 bare:AllBare s.gens
def CE (outer:List Env)(P:Program)(w:World)(H:Hp)(s:Shared)(Q:VK)(u:Value)(s':Shared):Prop :=
 ∃ v H',s'.os=s.os/\AllBare s'.gens/\Un (eA outer) [] H H' s.heap s'.heap/\cA P w H' s'.heap/\RelV v u/\Q v H'
def CR (CX:iO)(outer:List Env)(P:Program)(w:World)(H:Hp)(s:Shared)(Q:VK)(E:XK)(r:Result)(s':Shared):Prop :=
 match r with
 | .ok (.ret u)=>CE outer P w H s Q u s'
 | .ok _=>False
 | .error e=>CX outer H s E e s'
structure aJ (P:Program) (w:World) (K:Frag) (mg:Str->Option Value) (base:Heap) (CX:iO) (k:Nat) (f:Addr) (fd:FuncData) (ps:List Str) (sp:Sp):Prop where
 len:∀ vs H Q E,sp vs H Q E->vs.length=ps.length
 run:∀ (A:Around) (outer:List Env) (s:Shared) (H:Hp) (args:Args) (us:List Value) (vs:List V) (Q:VK) (E:XK),eh k A->yN P w K mg base A outer s H->BindsTo s fd args (ps.zip us)->Vals vs us->sp vs H Q E ->
  codeAny (model P w) A (.call (.ref f) args) (CR CX outer P w H s Q E) s
theorem aJ.imp {P:Program}{w:World}{K:Frag}{mg:Str->Option Value}{base:Heap}{CX:iO}{k:Nat}{f:Addr}{fd:FuncData}{ps:List Str}{sp Sq:Sp}(F:aJ P w K mg base CX k f fd ps sp)(h:∀ vs H Q E,Sq vs H Q E->sp vs H Q E):aJ P w K mg base CX k f fd ps Sq :=
 ⟨fun vs H Q E q=>F.len vs H Q E (h _ _ _ _ q),fun A outer s H args us vs Q E hr he hb hv hs=>F.run A outer s H args us vs Q E hr he hb hv (h _ _ _ _ hs)⟩
section
variable {X:Cx}{pins:List (Addr×Obj)}{σ:St}{H:Hp}{s s':Shared}
theorem Inv.acx (I:Inv X pins σ H s):yN X.prog X.w X.K X.mg X.base X.A X.stack s H :=
 ⟨I.ok.frames,I.ok.mod,I.bs,zd I.ok.pB I.sz,I.stack,I.Nt,I.aA,I.bare⟩
theorem Inv.after {Q:VK}{u:Value}(I:Inv X pins σ H s)(h:CE X.stack X.prog X.w H s Q u s'):EP X pins σ Q u s':=by
 obtain⟨v,H',os,bare,un,aA,r,q⟩:=h;obtain⟨hh,g,d,t,os'⟩:=s';obtain rfl:os'=s.os:=os;exact⟨v,H',I.call (h':=hh) (g':=g) (d':=d) (t':=t) (ch:=[]) un aA bare (fun b z=>absurd z (by simp)),r,q⟩
end
def sD (sp:Sp)(nP:List V)(E:XK)(t:TA):TE:=fun σ H Q=>t σ H fun vs H1=>sp (vs++nP) H1 Q E
def Binds (K:Frag)(fd:FuncData)(ps:List Str)(ds:List Value):Prop :=
 ∀ (s:Shared) (us:List Value),K.In s.heap->(us++ds).length=ps.length->BindsTo s fd ⟨us,[]⟩ (ps.zip (us++ds))
theorem Binds.all {K:Frag}{fd:FuncData}{ps:List Str}(h:∀ us:List Value,us.length=ps.length->bindArgs fd ⟨us,[]⟩=pure (ps.zip us)):Binds K fd ps []:=fun s us _ hl=>by
 rw[FF]at hl ⊢;exact .of_eq (h us hl)
def Passes (CX:iO)(X:Cx)(E:XK):Prop:=∀ (pins:List (Addr×Obj)) (σ:St) (H:Hp) (s:Shared) (e:Value) (s':Shared),Inv X pins σ H s->CX X.stack H s E e s'->X.xe e s'
section
variable {X:Cx}{CX:iO}{k:Nat}{f C:Addr}{fd:FuncData}{ps:List Str}{sp:Sp}{nP:List V}{ds:List Value}{E:XK}{x m:Str}{p pos apos:Pos}{e o:Expr}{es:List Expr}{ta:TE}{t:TA}
theorem aau {pins:List (Addr×Obj)}{σ:St}{H:Hp}{s:Shared}{Q:VK}{us:List Value}{vs:List V}(F:aJ X.prog X.w X.K X.mg X.base CX k f fd ps sp)(hr:eh k X.A)(hb:Binds X.K fd ps ds)(hd:Vals nP ds)(hx:Passes CX X E)(I:Inv X pins σ H s)(r:Vals vs us)(h:sp (vs++nP) H Q E):wpAny (model X.prog X.w) X.A (call (.ref f) us) (EP X pins σ Q) X.xe s:=by
 have r2:Vals (vs++nP) (us++ds):=r.append hd;have hl:(us++ds).length=ps.length:=by rw[<- r2.length];exact F.len _ _ _ _ h
 refine wpAny_call (codeAny_mono (F.run X.A X.stack s H ⟨us,[]⟩ (us++ds) (vs++nP) Q E hr I.acx (hb s us I.fG hl) r2 h) fun r s' hq=>?_);cases r with
 |error e=>exact hx pins σ H s e s' I hq
 |ok fl =>
  cases fl with
  |ret u=>exact I.after hq
  |next=>exact False.elim hq
  |brk=>exact False.elim hq
  |cont=>exact False.elim hq
theorem NA (F:aJ X.prog X.w X.K X.mg X.base CX k f fd ps sp)(hr:eh k X.A)(hg:Gl X x)(hm:X.mg x=some (.ref f))(hk:keepIn X.K (.ref f)=true)(hb:Binds X.K fd ps ds)(hd:Vals nP ds)(hx:Passes CX X E)(ha:PA X (e::es) t)(iw:(x==("__debug__" : Str))=false:=by decide)(he:starEach (e::es) X.env=(false,eval e X.env)::starEach es X.env:=by rfl)(gS:(backTo pos (starEach es X.env)).any (·.1)=false:=by rfl) :
  PE X (.Call (.Name x p) (e::es) [] pos) (sD sp nP E t):=by
 intro pins s σ H Q I h;refine akw (Nv I hg hm ?_ iw);refine PySem.W.callWith_K (h₀:=X.base) I.ok.mod.Fx hk (aD (ha pos pins s σ H _ I h) fun us s1 ⟨vs,H1,I1,r,q⟩=>⟨I1.fG,?_⟩) he gS;exact aau F hr hb hd hx I1 r q
end
structure aZ (N P:List Str) (sc:Scope):Prop where
 kind:sc.kind=.function
 co:sc.isCoroutine=false
 gen:sc.isGenerator=false
 nd:N.Nodup
 pre:N.take P.length=P
 par:∀ x ∈ P,sc.names.lookup x=some .local\/sc.names.lookup x=some .cell
 aav:∀ y ∈ sc.names,y.2 ≠ .free
theorem bt {N P:List Str}{sc:Scope}(a:sc.kind=.function:=by rfl)(b:sc.isCoroutine=false:=by rfl)(c:sc.isGenerator=false:=by rfl)(d:N.Nodup:=by decide +kernel)(e:N.take P.length=P:=by rfl)(f:∀ x ∈ P,sc.names.lookup x=some .local\/sc.names.lookup x=some .cell:=by decide +kernel)(g:∀ y ∈ sc.names,y.2 ≠ .free:=by decide +kernel):aZ N P sc:=⟨a,b,c,d,e,f,g⟩
theorem LW {kindOf:Str->Option NameKind}{x:Str}:∀ {binds:List (Str×Value)} {m:Str->Option Value},(∀ v,(x,v) ∉ binds)->bindL kindOf binds m x=m x
 |[],_,_=>rfl
 |(n,v)::r,m,h=>by
  unfold bindL;rw[LW fun w hw=>h w (ajs _ hw)];split
  ·have:x ≠ n:=by rintro rfl;exact h v aku
   simp[this]
  ·rfl
theorem LX {kindOf:Str->Option NameKind}{x:Str}:∀ {binds:List (Str×Value)} {m:Str->Option Value},(∀ v,(x,v) ∉ binds)->bindC kindOf binds m x=m x
 |[],_,_=>rfl
 |(n,v)::r,m,h=>by
  unfold bindC;rw[LX fun w hw=>h w (ajs _ hw)];split
  ·rfl
  ·have:x ≠ n:=by rintro rfl;exact h v aku
   simp[this]
theorem LY {kindOf:Str->Option NameKind}{x:Str}{v:Value}:∀ {P:List Str} {vs:List Value} {i:Nat} {m:Str->Option Value},P.Nodup->P[i]?=some x->vs[i]?=some v->kindOf x=some .local ->
  bindL kindOf (P.zip vs) m x=some v
 |[],_,_,_,_,h,_,_=>by simp at h
 |_::_,[],_,_,_,_,h,_=>by simp at h
 |p::P,w::vs,0,m,nd,h1,h2,hk=>by
  simp at h1 h2;subst h1;subst h2;show bindL kindOf ((p,w)::P.zip vs) m p=_;unfold bindL;rw[LW fun v hv=>(BB.mp nd).1 (akZ hv).1,lp hk];simp
 |p::P,w::vs,i+1,m,nd,h1,h2,hk=>by
  show bindL kindOf ((p,w)::P.zip vs) m x=_;unfold bindL;exact LY (i:=i) (BB.mp nd).2 (by simpa using h1) (by simpa using h2) hk
theorem LZ {kindOf:Str->Option NameKind}{x:Str}{v:Value}:∀ {P:List Str} {vs:List Value} {i:Nat} {m:Str->Option Value},P.Nodup->P[i]?=some x->vs[i]?=some v->kindOf x ≠ some .local ->
  bindC kindOf (P.zip vs) m x=some v
 |[],_,_,_,_,h,_,_=>by simp at h
 |_::_,[],_,_,_,_,h,_=>by simp at h
 |p::P,w::vs,0,m,nd,h1,h2,hk=>by
  simp at h1 h2;subst h1;subst h2;show bindC kindOf ((p,w)::P.zip vs) m p=_;unfold bindC;rw[LX fun v hv=>(BB.mp nd).1 (akZ hv).1,mf hk];simp
 |p::P,w::vs,i+1,m,nd,h1,h2,hk=>by
  show bindC kindOf ((p,w)::P.zip vs) m x=_;unfold bindC;exact LZ (i:=i) (BB.mp nd).2 (by simpa using h1) (by simpa using h2) hk
def start (N:List Str)(vs:List V):St:=vs.map some++List.replicate (N.length-vs.length) none
def jg (CX:iO)(P:Program)(w:World)(K:Frag)(mg:Str->Option Value)(base:Heap)(N:List Str)(qual:Str)(scope:Scope)(f:Addr)(cd:Value)(A:Around)(outer:List Env)(s:Shared)(H:Hp)(E:XK):Cx where
 prog:=P
 w:=w
 K:=K
 mg:=mg
 base:=base
 A:=A.deeper (envOfC qual scope s.heap.objs.size f cd)
 N:=N
 dW:=s
 uU:=H
 env:=envOfC qual scope s.heap.objs.size f cd
 outer:=outer
 stack:=envOfC qual scope s.heap.objs.size f cd::outer
 ex:=[]
 calm:=true
 fn:=fun _=>true
 pn:=[]
 xe:=fun e s'=>wpAny (model P w) (A.deeper (envOfC qual scope s.heap.objs.size f cd)) (leaving (envOfC qual scope s.heap.objs.size f cd) e) (fun _ FJ=>CX outer H s E e FJ) (fun e' FJ=>CX outer H s E e' FJ) s'
theorem B6 {sc:Scope}{n:Nat}{x:Str}(h:sc.names.lookup x=some .cell):∃ c,(cellsFrom n sc.names []).lookup x=some c:=by
 have q:=PySem.W.cellsFrom_some sc.names n [] (.inl h);exact ajD.mp q
theorem Xu {CX:iO}{P:Program}{w:World}{K:Frag}{mg:Str->Option Value}{base:Heap}{N ps:List Str}{qual:Str}{scope:Scope}{f:Addr}{cd:Value}{A:Around}{outer:List Env}{s s1:Shared}{H:Hp}{E:XK}{us:List Value}{vs:List V}(S:aZ N ps scope)(hd:A.handled=none)(e0:yN P w K mg base A outer s H)(hl:vs.length=ps.length)(r:Vals vs us)(x:InCallC s s.heap.objs.size (bindL (envOfC qual scope s.heap.objs.size f cd).kindOf (ps.zip us) fun _=>none) (cellsFrom (s.heap.objs.size+1) scope.names []) (bindC (envOfC qual scope s.heap.objs.size f cd).kindOf (ps.zip us) fun _=>none) s1) :
  Inv (jg CX P w K mg base N qual scope f cd A outer s H E) [] (start N vs) H s1:=by
 have gS:ps.length<=N.length:=by have:=congrArg List.length S.pre;rw[NG]at this;omega
 obtain⟨h1,tk,rfl,hk⟩:=x.done;have vC:∀ b:Addr,b ∉ (jg CX P w K mg base N qual scope f cd A outer s H E).ex:=fun b z=>absurd (show b ∈ ([]:List Addr)from z) (by simp)
 refine⟨⟨e0.mod,S.kind,rfl,rfl,br _,fun y z c h1 h2=>?_,fun y hy=>?_,fun y c _ h=>?_,fun _=>hd,Around.frames_deeper e0.frames,.inr ⟨rfl,rfl⟩,fun b z=>absurd z (vC b),e0.bs,e0.pB,fun b _ _=>vC b,fun b z=>absurd z (vC b),e0.j4,e0.sZ⟩,
  rfl,e0.bare,Un.kept hk,⟨_,x.toInCall.ns,fun i y v h1 h2 h3=>?_⟩,fun y c h=>⟨_,x.cell y c h⟩,e0.aA.fresh (br _),fun y c h=>?_,fun p hp=>absurd (show p ∈ ([]:List (Addr×Obj))from hp) (by simp),e0.aA.kept hk,?_⟩
 ·exact name_of_addr x.apart (ai7 h1) (ai7 h2)
 ·have hy:scope.names.lookup y=some .cell\/scope.names.lookup y=some .free:=hy;rcases hy with hy | hy
  ·exact B6 hy
  ·exact absurd rfl (S.aav _ (ai7 hy))
 ·exact Nat.le_of_lt (x.above y c (ai7 h))
 ·have hi:i<vs.length:=by
   unfold start at h2;by_cases hi:i<vs.length
   ·exact hi
   ·rw[LH (by simpa using hi)]at h2;rw[ajH]at h2;split at h2<;>cases h2
  have ha:vs[i]?=some v:=by
   unfold start at h2;rw[aju (by simpa using hi),ee]at h2;cases e:vs[i]? with
   |none=>rw[e]at h2;cases h2
   |some a=>rw[e]at h2;cases h2;rfl
  obtain⟨u,hu,rv⟩:=r.get ha;have hp:ps[i]?=some y:=by
   rw[<- S.pre,List.getElem?_take_of_lt (by omega)];exact h1
  have Sr:ps.Nodup:=by rw[<- S.pre];exact S.nd.sublist (List.take_sublist _ _)
  refine⟨u,rv,?_⟩;rcases S.par y (mT hp)with k | k
  ·exact .inl ⟨k,LY Sr hp hu k⟩
  ·obtain⟨c,e⟩:=B6 (n:=s.heap.objs.size+1) k;refine .inr ⟨.inl k,c,e,?_⟩;have q:=x.cell y c e;rw[LZ Sr hp hu (by show scope.names.lookup y ≠ _;rw[k];decide)]at q;exact q
 ·exact e0.aA.fresh (Nat.le_of_lt (x.above y c (ai7 h)))
 ·unfold start;show _=N.length;rw[qr,aa,aj2];omega
theorem P5 {CX:iO}{P:Program}{w:World}{K:Frag}{mg:Str->Option Value}{base:Heap}{k:Nat}{f:Addr}{name qual:Str}{params:Arguments}{body:List Stmt}{scope:Scope}{dV kV doc pm bg ct oc:Value}{an od:Option Addr}{iP:Array (Option Value)}{N ps:List Str}{sp:Sp}(lk:K.lookup f=some ⟨oc,od,.func (fnOf name qual params body scope dV kV doc pm an bg ct),iP⟩)(gC:codeIn K bg qual=true)(S:aZ N ps scope)(len:∀ vs H Q E,sp vs H Q E->vs.length=ps.length)(uM:∀ (A:Around) (outer:List Env) (s:Shared) (H:Hp) (vs:List V) (Q:VK) (E:XK),eh k (A.deeper (envOfC qual scope s.heap.objs.size f bg))->sp vs H Q E ->
   ∃ t,fU (jg CX P w K mg base N qual scope f bg A outer s H E) body t/\t { nx:=fun _ H'=>Q .aH H',rt:=Q } (start N vs) H) :
  aJ P w K mg base CX (k+1) f (fnOf name qual params body scope dV kV doc pm an bg ct) ps sp:=by
 refine⟨len,fun A outer s H args us vs Q E hr e0 hb r kX=>?_⟩;have hl:=len _ _ _ _ kX;have KX:K.In s.heap:=e0.mod.Fx.keeps fun b o e=>(e0.bs b o e).1
 have lim:s.heap.NoLimit:=e0.mod.nolimit.keeps fun b o e=>(e0.bs b o e).1
 have abU:∀ y ∈ ps.zip us,scope.names.lookup y.1=some .local\/(scope.names.lookup y.1=some .cell/\((cellsFrom (s.heap.objs.size+1) scope.names []).lookup y.1).isSome=true):=fun⟨n,v⟩ hy=>by
  rcases S.par n (akZ hy).1 with q | q
  ·exact .inl q
  ·exact .inr ⟨q,PySem.W.cellsFrom_some _ _ _ (.inl q)⟩
 refine codeAny_call_function hr.depth (KX _ _ lk) rfl S.co S.gen rfl (PySem.W.codeRec_of KX gC) (hb _ _ _ _ ?_);refine wpAny_newFunctionEnv_cells S.kind abU fun env he s1 x=>?_
 subst he;refine⟨lim.keeps x.toInCall.keep,codeAny_func ?_⟩;obtain⟨t,ht,hq⟩:=uM A outer s H vs Q E (hr.deeper _) kX;have I:Inv (jg CX P w K mg base N qual scope f bg A outer s H E) [] (start N vs) H s1:=Xu S hr.hd e0 hl r x;refine ajC (ht [] s1 (start N vs) H _ I hq) (fun fl s' hs=>?_) fun e s' hs=>hs
 have fin:∀ {aB:St} {H':Hp} {v:V} {u:Value},Inv (jg CX P w K mg base N qual scope f bg A outer s H E) [] aB H' s'->RelV v u->Q v H'->CE outer P w H s Q u s' :=
  fun {aB H' v u} J rv q=>⟨v,H',J.os,J.bare,J.base,J.aA,rv,q⟩
 cases fl with
 |ret u =>
  obtain⟨v,aB,H',J,rv,q⟩:=hs;exact fin J rv q
 |next =>
  obtain⟨aB,H',J,q⟩:=hs;exact fin (v:=V.aH) (u:=Value.none) J rfl q
 |brk =>
  obtain⟨_,_,_,q⟩:=hs;exact False.elim q
 |cont =>
  obtain⟨_,_,_,q⟩:=hs;exact False.elim q
section
variable {X:Cx}{x:Str}{p pos:Pos}{e:Expr}{es:List Expr}{t:TA}{id T:String}{r:List V->Hp->VK->Prop}
def ke (r:List V->Hp->VK->Prop)(t:TA):TE:=fun σ H Q=>t σ H fun vs H1=>r vs H1 Q
theorem om (hc:eQ X (.builtin id) r)(hg:Gl X x)(hm:X.mg x=none)(hv:bootBuiltins x=some (.builtin id))(ha:PA X (e::es) t)(hn:x ≠ "__name__" := by decide)(iw:(x==("__debug__" : Str))=false:=by decide)(he:starEach (e::es) X.env=(false,eval e X.env)::starEach es X.env:=by rfl)(gS:(backTo pos (starEach es X.env)).any (·.1)=false:=by rfl):PE X (.Call (.Name x p) (e::es) [] pos) (ke r t):=by
 intro pins s σ H Q I h;refine akw (oI I hg hm hv ?_ hn iw);exact PyProof.Rows.callWith_builtin1 (aD (ha pos pins s σ H _ I h) fun us s1 ⟨vs,H1,I1,r1,q1⟩=>hc pins s1 σ H1 vs us Q I1 r1 q1) he gS
theorem wK (hc:eQ X (.type T) r)(hg:Gl X x)(hm:X.mg x=none)(hv:bootBuiltins x=some (.type T))(ha:PA X (e::es) t)(hn:x ≠ "__name__" := by decide)(iw:(x==("__debug__" : Str))=false:=by decide)(he:starEach (e::es) X.env=(false,eval e X.env)::starEach es X.env:=by rfl)(gS:(backTo pos (starEach es X.env)).any (·.1)=false:=by rfl):PE X (.Call (.Name x p) (e::es) [] pos) (ke r t):=by
 intro pins s σ H Q I h;refine akw (oI I hg hm hv ?_ hn iw);exact OE (aD (ha pos pins s σ H _ I h) fun us s1 ⟨vs,H1,I1,r1,q1⟩=>hc pins s1 σ H1 vs us Q I1 r1 q1) he gS
end
theorem intsAre_of {ns:LI}:∀ {us:List Value},Vals (ns.map V.int) us->IntsAre us ns:=by
 induction ns with
 |nil=>intro us r;rw[ai5]at r;cases r;exact .nil
 |cons n ns ih =>
  intro us r;rw[i8]at r;cases r with
  |cons r1 r2 =>
   obtain⟨t,e⟩:=r1;subst e;exact .cons n t (ih r2)
def dv (n:Nat)(i:Int):Option Nat:=if 0<=i then (if i<n then some i.toNat else none)else if -(n:Int)<=i then some (i+n).toNat else none
def bu {α:Type}(xs:List α)(i:Int):Option α:=(dv xs.length i).bind fun j=>xs[j]?
theorem rN {n:Nat}{i:Int}{j:Nat}(h:dv n i=some j):seqIndex? i n=some j/\j<n /\ -(n:Int)<=i/\i<n:=by
 unfold dv at h;by_cases h0 : 0<=i
 ·rw[lp h0]at h;by_cases h1:i<n
  ·rw[lp h1]at h;have e:i.toNat=j:=xw h;exact⟨by rw[seqIndex_of h0 h1,e],by omega,by omega,h1⟩
  ·rw[mf h1]at h;cases h
 ·rw[mf h0]at h;by_cases h1 : -(n:Int)<=i
  ·rw[lp h1]at h;have e:(i+n).toNat=j:=xw h;exact⟨by rw[seqIndex_neg (by omega) h1,e],by omega,h1,by omega⟩
  ·rw[mf h1]at h;cases h
theorem NB {α:Type}{xs:List α}{i:Int}{v : α}(h:bu xs i=some v):∃ j,seqIndex? i xs.length=some j/\xs[j]?=some v/\j<xs.length /\ -(xs.length:Int)<=i/\i<xs.length:=by
 unfold bu at h;cases e:dv xs.length i with
 |none=>rw[e]at h;cases h
 |some j =>
  rw[e]at h;obtain⟨h1,h2,h3,h4⟩:=rN e;exact⟨j,h1,h,h2,h3,h4⟩
theorem iV {α:Type}{xs:List α}{j:Nat}{v : α}(h:xs[j]?=some v):bu xs (j:Int)=some v:=by
 have hj:j<xs.length:=(ir.mp h).1;have e:dv xs.length (j:Int)=some j:=by
  unfold dv;rw[lp (by omega),lp (by omega)];simp
 unfold bu;rw[e];exact h
def xB (b:Expr):Prop:=∀ o i,subscripted b false o i=operate [o,i] (getItem o i)
def vD (X:Cx)(r:R2):Prop :=
 ∀ (value slice:Expr) (pins:List (Addr×Obj)) (s:Shared) (σ:St) (H:Hp) (x y:V) (v u:Value) (Q:VK),Inv X pins σ H s->RelV x v->RelV y u->r x y H Q ->
  subscripted slice false v u=operate [v,u] (getItem v u)->wpAny (model X.prog X.w) X.A (subscriptTail value slice v u) (EP X pins σ Q) X.xe s
def Ss (X:Cx)(id:String)(r:V->List V->Hp->VK->Prop):Prop :=
 ∀ (pins:List (Addr×Obj)) (s:Shared) (σ:St) (H:Hp) (x:V) (xs:List V) (v:Value) (us:List Value) (Q:VK),Inv X pins σ H s->RelV x v->Vals xs us->r x xs H Q ->
  wpAny (model X.prog X.w) X.A (call (.builtin id) (v::us)) (EP X pins σ Q) X.xe s
section
variable {X:Cx}{a b:Expr}{ta tb:TE}{pos:Pos}
theorem oR {r:R2}(hr:vD X r)(ha:PE X a ta)(hb:PE X b tb)(hs:xB b):PE X (.Subscript a b pos) (iu r ta tb):=by
 intro pins s σ H Q I h;exact Subscript_ (EX ha hb I h fun v u s2 x y H2 I2 rx ry q=>hr a b pins s2 σ H2 x y v u Q I2 rx ry q (hs _ _))
def uX (K:Frag):R2:=fun x y H Q=>∃ p xs i v,x=.ref p/\y=.int i/\aL K H p xs/\bu xs i=some v/\Q v H
def yO (K:Frag):R2:=fun x y H Q=>∃ p xs i v,x=.ref p/\y=.int i/\cW K H p xs/\bu xs i=some v/\Q v H
theorem uh:vD X (uX X.K):=by
 intro value slice pins s σ H x y v u Q I rx ry h hs;obtain⟨p,xs,i,z,rfl,rfl,hq,he,q⟩:=h;cases rx;obtain⟨t,rfl⟩:=ry;obtain⟨its,r,pl,hz⟩:=I.list hq;obtain⟨j,h1,h2,h3,h4,h5⟩:=NB he;obtain⟨w,ew,iq⟩:=r.get h2;have hl:=r.length;have hn:=x9;have fin:EP X pins σ Q w s:=⟨z,H,I,iq,q⟩
 by_cases h0 : 0<=i
 ·have hj:i.toNat=j:=by
   rw[seqIndex_of h0 h5]at h1;exact xw h1
  exact item_listR pl.isList h0 (by omega) (by rw[hj];simpa using ew) fin hs
 ·have hj:(i+(its.toArray.size:Int)).toNat=j:=by
   rw[seqIndex_neg (by omega) h4]at h1;rw[uu,<- hl];exact xw h1
  exact subscriptTail_builtinR (x:=w) pl.isList.typeIs slot_list_getitem.lookup
   (wpAny_getItem_list_neg (Q:=fun r s'=>r=w/\EP X pins σ Q r s') pl.isList (by omega) (by rw[uu]<;>omega) (by omega) (by rw[hj];simpa using ew) ⟨rfl,fin⟩) hs
theorem aaw:vD X (yO X.K):=by
 intro value slice pins s σ H x y v u Q I rx ry h hs;obtain⟨p,xs,i,z,rfl,rfl,hq,he,q⟩:=h;cases rx;obtain⟨t,rfl⟩:=ry;obtain⟨its,r,pl,hz⟩:=I.tuple hq;obtain⟨j,h1,h2,h3,h4,h5⟩:=NB he;obtain⟨w,ew,iq⟩:=r.get h2;have hl:=r.length;have hn:=x9;have fin:EP X pins σ Q w s:=⟨z,H,I,iq,q⟩
 exact subscriptTail_builtinR (x:=w) pl.typeIs slot_tuple_getitem.lookup
  (getItem_tuple (j:=j) (Q:=fun r s'=>r=w/\EP X pins σ Q r s') pl (by omega) (by omega) (by rw[uu,<- hl];exact h1) (by simpa using ew) ⟨rfl,fin⟩) hs
theorem WZ (its:List Value)(n j:Nat)(u:Value):Obj.mapSeq (·.setIfInBounds j u) { cls:=.type "list",data:=.seq its.toArray n }={ cls:=.type "list",data:=.seq (its.set j u).toArray n }:=by
 simp[Obj.mapSeq]
theorem Inv.lst {pins:List (Addr×Obj)}{σ:St}{H:Hp}{s:Shared}{p:Addr}{xs:List V}(I:Inv X pins σ H s)(h:H p=some (.lst xs)) :
  ∃ (its:List Value) (n:Nat),Vals xs its/\s.heap.get? p=some { cls:=.type "list",data:=.seq its.toArray n }/\xs.length<=sizeLine:=by
 obtain⟨z,its,n,r,e⟩:=I.aA p _ h;exact⟨its,n,r,e,z⟩
theorem Inv.aax {pins:List (Addr×Obj)}{σ:St}{H:Hp}{s:Shared}{p:Addr}{xs ys:List V}{its its':List Value}{n n':Nat}{f:Obj->Obj}(I:Inv X pins σ H s)(h:H p=some (.lst xs))(ho:s.heap.get? p=some { cls:=.type "list",data:=.seq its.toArray n })(hf:f { cls:=.type "list",data:=.seq its.toArray n }={ cls:=.type "list",data:=.seq its'.toArray n' })(r:Vals ys its')(hz:ys.length<=sizeLine)(t:Nat) :
  Inv X pins σ (upd H p (.lst ys)) { s with heap:=s.heap.update p f,toks:=t }:=by
 have e:(s.heap.update p f).get? p=some { cls:=.type "list",data:=.seq its'.toArray n' }:=by
  rw[Heap.get?_update_self f ho (by rw[hf]<;>rfl),hf]
 refine I.write (x:=p) (e:=p) (by rw[h];trivial) (.inl rfl) (fun b u hb q=>(Heap.get?_update_other _ _ (Ne.symm hb)).trans q) ⟨_,e⟩ ?_;exact⟨hz,its',n',r,e⟩
def nu:V->V->V->Hp->(Hp->Prop)->Prop:=fun o i v H Q=>∃ p xs k j,o=.ref p/\i=.int k/\H p=some (.lst xs)/\dv xs.length k=some j/\Q (upd H p (.lst (xs.set j v)))
theorem set_list:QG X nu:=by
 intro pins s σ H o i v ov iv u Q I ro ri rv h;obtain⟨p,xs,k,j,rfl,rfl,hp,hj,q⟩:=h;cases ro;obtain⟨t,rfl⟩:=ri;obtain⟨its,n,r,ho,hz⟩:=I.lst hp;obtain⟨h1,h2,h3,h4⟩:=rN hj;have hl:=r.length;have hn:=x9;have I':Inv X pins σ (upd H p (.lst (xs.set j v))) { s with heap:=s.heap.update p (Obj.mapSeq (·.setIfInBounds j u)) } :=
  I.aax hp ho (WZ its n j u) (r.set rv j) (by rw[ET];exact hz) s.toks
 by_cases h0 : 0<=k
 ·have hk:k.toNat=j:=by
   rw[seqIndex_of h0 h4]at h1;exact xw h1
  exact PySem.W.ki_setAt ho h0 (by omega) (by rw[uu,<- hl];exact h4) (by rw[hk];exact⟨_,I',q⟩)
 ·have hk:(k+(its.toArray.size:Int)).toNat=j:=by
   rw[seqIndex_neg (by omega) h3]at h1;rw[uu,<- hl];exact xw h1
  exact PySem.W.ki_setBack ho (by omega) (by rw[uu,<- hl];exact h3) (by omega) (by rw[hk];exact⟨_,I',q⟩)
def fE:V->Bool
 | .aH=>true
 | .bl _=>true
 | .int _=>true
 | .str _=>true
 |_=>false
def dw:V->V->Bool
 | .aH,.aH=>true
 | .bl a,.bl b=>a==b
 | .bl a,.int b=>(if a then 1 else 0)==b
 | .int a,.bl b=>a==(if b then 1 else 0)
 | .int a,.int b=>a==b
 | .str a,.str b=>a==b
 |_,_=>false
theorem OI {A:Around}{s:Shared}{y x:V}{u v:Value}(ry:RelV y u)(rx:RelV x v)(fy:fE y=true)(fx:fE x=true):SeqAt.EqAt A s u v (dw y x):=by
 cases y with
 |aH =>
  cases ry
  cases x with
  |aH=>cases rx;exact SeqAt.EqAt.same _
  |bl b=>cases rx;exact SeqAt.EqAt.none_bool b
  |int b=>obtain⟨t,rfl⟩:=rx;exact SeqAt.EqAt.none_int b t
  |str b=>obtain⟨t,rfl⟩:=rx;exact SeqAt.EqAt.none_str b t
  |_=>exact absurd (show false=true from fx) AE
 |bl a =>
  cases ry
  cases x with
  |aH=>cases rx;exact SeqAt.EqAt.bool_none a
  |bl b=>cases rx;exact SeqAt.EqAt.bool_bool a b
  |int b=>obtain⟨t,rfl⟩:=rx;exact SeqAt.EqAt.bool_int a b t
  |str b=>obtain⟨t,rfl⟩:=rx;exact SeqAt.EqAt.bool_str a b t
  |_=>exact absurd (show false=true from fx) AE
 |int a =>
  obtain⟨t',rfl⟩:=ry;cases x with
  |aH=>cases rx;exact SeqAt.EqAt.int_none a t'
  |bl b=>cases rx;exact SeqAt.EqAt.int_bool a t' b
  |int b=>obtain⟨t,rfl⟩:=rx;exact SeqAt.EqAt.int_int a t' b t
  |str b=>obtain⟨t,rfl⟩:=rx;exact SeqAt.EqAt.int_str a t' b t
  |_=>exact absurd (show false=true from fx) AE
 |str a =>
  obtain⟨t',rfl⟩:=ry;cases x with
  |aH=>cases rx;exact SeqAt.EqAt.str_none a t'
  |bl b=>cases rx;exact SeqAt.EqAt.str_bool a t' b
  |int b=>obtain⟨t,rfl⟩:=rx;exact SeqAt.EqAt.str_int a t' b t
  |str b=>obtain⟨t,rfl⟩:=rx;exact SeqAt.EqAt.str_str a t' b t
  |_=>exact absurd (show false=true from fx) AE
 |_=>exact absurd (show false=true from fy) AE
def gF (x:V)(u:Value):Bool:=match u with
 | .none=>dw .aH x
 | .bool b=>dw (.bl b) x
 | .int i _=>dw (.int i) x
 | .str z _=>dw (.str z) x
 |_=>false
theorem Di {x y:V}{u:Value}(r:RelV y u)(f:fE y=true):gF x u=dw y x:=by
 cases y with
 |aH=>cases r;rfl
 |bl b=>cases r;rfl
 |int i=>obtain⟨t,rfl⟩:=r;rfl
 |str z=>obtain⟨t,rfl⟩:=r;rfl
 |_=>exact absurd (show false=true from f) AE
theorem ui {x:V}:∀ {xs:List V} {us:List Value},Vals xs us->xs.all fE=true->us.any (gF x)=xs.any fun y=>dw y x
 |_,_,.nil,_=>rfl
 |y::xs,u::us,.cons r t,f=>by
  rw[ajn,BS]at f;rw[Pf,Pf,Di r f.1,ui t f.2]
theorem rC {A:Around}{s:Shared}{x:V}{v:Value}(rx:RelV x v)(fx:fE x=true):∀ {xs:List V} {us:List Value},Vals xs us->xs.all fE=true->∀ u ∈ us,SeqAt.EqAt A s u v (gF x u)
 |_,_,.nil,_=>fun u hu=>by cases hu
 |y::xs,u::us,.cons r t,f=>fun u' hu=>by
  rw[ajn,BS]at f;rcases gr.mp hu with rfl | hu
  ·rw[Di r f.1];exact OI r rx f.1 fx
  ·exact rC rx fx t f.2 u' hu
def zc (x:V)(xs:List V):Bool:=xs.any fun y=>dw y x
def vE (K:Frag)(neg:Bool):R2:=fun x y H Q=>∃ p xs,y=.ref p/\(aL K H p xs\/cW K H p xs)/\fE x=true/\xs.all fE=true/\Q (.bl (if neg then !zc x xs else zc x xs)) H
theorem Xv:cX X (compareOp .In) (vE X.K false):=by
 intro pins s σ H x y v u Q I rx ry h;obtain⟨p,xs,rfl,hq,fx,fs,q⟩:=h;cases ry;rcases hq with hq | hq
 ·obtain⟨its,r,pl,hz⟩:=I.list hq;refine SeqAt.in_listAt (gF x) pl.isList (fun w hw=>rC rx fx r fs w (by simpa using hw)) ⟨.bl _,H,I,rfl,?_⟩;rw[show its.toArray.any (gF x)=its.any (gF x) by simp,ui r fs];exact q
 ·obtain⟨its,r,pl,hz⟩:=I.tuple hq;refine SeqAt.in_tupleAt (gF x) pl (fun w hw=>rC rx fx r fs w (by simpa using hw)) ⟨.bl _,H,I,rfl,?_⟩;rw[show its.toArray.any (gF x)=its.any (gF x) by simp,ui r fs];exact q
theorem V5:cX X (compareOp .NotIn) (vE X.K true):=by
 intro pins s σ H x y v u Q I rx ry h;obtain⟨p,xs,rfl,hq,fx,fs,q⟩:=h;cases ry;rcases hq with hq | hq
 ·obtain⟨its,r,pl,hz⟩:=I.list hq;refine SeqAt.notIn_listAt (gF x) pl.isList (fun w hw=>rC rx fx r fs w (by simpa using hw)) ⟨.bl _,H,I,rfl,?_⟩;rw[show its.toArray.any (gF x)=its.any (gF x) by simp,ui r fs];exact q
 ·obtain⟨its,r,pl,hz⟩:=I.tuple hq;refine SeqAt.notIn_tupleAt (gF x) pl (fun w hw=>rC rx fx r fs w (by simpa using hw)) ⟨.bl _,H,I,rfl,?_⟩;rw[show its.toArray.any (gF x)=its.any (gF x) by simp,ui r fs];exact q
theorem Lf:eQ X (.builtin "len") (fun xs H Q=>∃ p ys,xs=[.ref p]/\(aL X.K H p ys\/cW X.K H p ys)/\Q (.int ys.length) H):=by
 intro pins s σ H xs us Q I r h;obtain⟨p,ys,rfl,hq,q⟩:=h;obtain⟨u,rfl,rx⟩:=vals1 r;cases rx;have hn:=x9;rcases hq with hq | hq
 ·obtain⟨its,r',pl,hz⟩:=I.list hq;have hlen:=r'.length;exact Calls.call_len_list pl.isList (by simp only[uu]<;>omega) ⟨.int ys.length,H,I.tok _,⟨s.toks+1,by rw[uu,hlen]⟩,q⟩
 ·obtain⟨its,r',pl,hz⟩:=I.tuple hq;have hlen:=r'.length;exact len_tuple pl (by simp only[uu]<;>omega) ⟨.int ys.length,H,I.tok _,⟨s.toks+1,by rw[uu,hlen]⟩,q⟩
theorem Lg:eQ X (.type "list") (fun xs H Q=>∃ p ys,xs=[.ref p]/\(aL X.K H p ys\/cW X.K H p ys)/\∀ l,H l=none->Q (.ref l) (upd H l (.lst ys))):=by
 intro pins s σ H xs us Q I r h;obtain⟨p,ys,rfl,hq,q⟩:=h;obtain⟨u,rfl,rx⟩:=vals1 r;cases rx;have fin:∀ (its:List Value),Vals ys its->ys.length<=sizeLine->∀ (h':Heap) (c':Nat),(∀ b o',s.heap.get? b=some o'->h'.get? b=some o') ->
   h'.get? s.heap.objs.size=some { cls:=.type "list",dict:=none,data:=.seq its.toArray c',slots:=#[] }->EP X pins σ Q (.ref s.heap.objs.size) { s with heap:=h' }:=fun its r' hz h' c' kp e =>
  ⟨.ref s.heap.objs.size,_,I.laid (t':=s.toks) kp (br _) (show cv X.prog X.w _ h' _ (.lst ys)from⟨hz,its,c',r',e⟩),rfl,q _ (I.aA.fresh (br _))⟩
 rcases hq with hq | hq
 ·obtain⟨its,r',pl,hz⟩:=I.list hq;have hlen:=r'.length;obtain⟨o,ho,hc,n,hd⟩:=pl.isList;exact call_list_seq p (.inl rfl) ho hc hd (fun h' c' kp e=>fin its r' hz h' c' kp e) (by simp only[uu]<;>omega)
 ·obtain⟨its,r',pl,hz⟩:=I.tuple hq;have hlen:=r'.length;obtain⟨o,ho,hc,n,hd⟩:=pl;exact call_list_seq p (.inr rfl) ho hc hd (fun h' c' kp e=>fin its r' hz h' c' kp e) (by simp only[uu]<;>omega)
theorem VC:eQ X (.type "tuple") (fun xs H Q=>∃ p ys,xs=[.ref p]/\((aL X.K H p ys/\∀ l,H l=none->Q (.ref l) (upd H l (.tup ys)))\/(cW X.K H p ys/\Q (.ref p) H))):=by
 intro pins s σ H xs us Q I r h;obtain⟨p,ys,rfl,h⟩:=h;obtain⟨u,rfl,rx⟩:=vals1 r;cases rx;rcases h with⟨hq,q⟩ | ⟨hq,q⟩
 ·obtain⟨its,r',pl,hz⟩:=I.list hq;have hlen:=r'.length;refine call_tuple_list pl.isList (fun h' kp=>?_) (by simp only[uu]<;>omega);have I1:Inv X pins σ H { s with heap:=h' }:=I.kept (t':=s.toks) kp;have I2:Inv X pins σ (upd H h'.objs.size (.tup ys)) { s with heap:=h'.push { cls:=.type "tuple",data:=.seq its.toArray } } :=
   I1.laid (t':=s.toks) (fun b o e=>Cc _ e) (br _) (show cv X.prog X.w _ _ _ (.tup ys)from⟨hz,its,r',IsTup.new _ _⟩)
  exact⟨.ref h'.objs.size,_,I2,rfl,q _ (I1.aA.fresh (br _))⟩
 ·obtain⟨its,r',pl,hz⟩:=I.tuple hq;exact call_tuple_same pl ⟨.ref p,H,I,rfl,q⟩
def Su (K:Frag)(T:String)(x:V)(H:Hp):Prop:=match x with
 | .str _=>T = "str"
 | .int _=>T = "int"
 | .ref p=>(T = "list" /\ ∃ xs,aL K H p xs)\/(T = "tuple" /\ ∃ o,K.lookup p=some o/\o.cls=.type "tuple" /\ o.dict=none) \/
   (T = "dict" /\ ((∃ kvs,H p=some (.dK kvs))\/∃ kvs,H p=some (.dT kvs)))\/(T = "set" /\ ∃ S n,H p=some (.set S n))
 |_=>False
theorem aay {pins:List (Addr×Obj)}{σ:St}{H:Hp}{s:Shared}{T:String}{x:V}{v:Value}(I:Inv X pins σ H s)(r:RelV x v)(ty:Su X.K T x H) :
  s.TypeIs v T/\∀ a,v=.ref a->∃ ob,s.heap.get? a=some ob/\ob.dict=none:=by
 cases x with
 |str z =>
  obtain⟨t,rfl⟩:=r;cases (show T = "str" from ty);exact⟨typeIs_str s z t,fun _ e=>nomatch e⟩
 |int i =>
  obtain⟨t,rfl⟩:=r;cases (show T = "int" from ty);exact⟨typeIs_int s i t,fun _ e=>nomatch e⟩
 |ref p =>
  cases r
  rcases ty with⟨rfl,xs,hq⟩ | ⟨rfl,o,hk,hc,hd⟩ | ⟨rfl,hk⟩ | ⟨rfl,S,n,hk⟩
  ·obtain⟨its,_,pl,_⟩:=I.list hq;refine⟨pl.isList.typeIs,fun a e=>?_⟩;cases e;obtain⟨o,n,e,c,hd,_⟩:=pl;exact⟨o,e,hd⟩
  ·refine⟨⟨o,I.fG p o hk,hc⟩,fun a e=>?_⟩;cases e;exact⟨o,I.fG _ o hk,hd⟩
  ·have z:∃ o,s.heap.get? p=some o/\o.ExactDict:=by
    rcases hk with⟨kvs,hk⟩ | ⟨kvs,hk⟩
    ·obtain⟨_,_,_,_,o,_,_,e,ex,_⟩:=I.aA p _ hk;exact⟨o,e,ex⟩
    ·obtain⟨_,_,_,_,o,_,_,e,ex,_⟩:=I.aA p _ hk;exact⟨o,e,ex⟩
   obtain⟨o,e,ex⟩:=z;refine⟨⟨o,e,ex.1⟩,fun a e2=>?_⟩;cases e2;exact⟨o,e,ex.2.1⟩
  ·obtain⟨o,_,_,_,e,ex,_⟩:=I.aA p _ hk;refine⟨⟨o,e,ex.1⟩,fun a e2=>?_⟩;cases e2;exact⟨o,e,ex.2.1⟩
 |_=>exact False.elim ty
def pH (K:Frag)(T:String)(r:V->List V->Hp->VK->Prop)(to:TE)(t:TA):TE:=fun σ H Q=>to σ H fun x H1=>Su K T x H1/\t σ H1 fun xs H2=>r x xs H2 Q
variable {o e:Expr}{es:List Expr}{to:TE}{t:TA}{name:Str}{apos fQ:Pos}{T id:String}{r:V->List V->Hp->VK->Prop}
theorem sE (pa:PlainAttrs T)(slot:Slot T name id)(FK:typeOf (.builtin id)=pure (.type "method_descriptor"))(hm:Ss X id r)(ho:PE X o to)(ha:PA X (e::es) t)(hC:attributeBase o name X.env (eval o X.env)=eval o X.env:=by rfl)(hJ:((backTo fQ (starEach (e::es) X.env)).all (fun x=>!x.1)&&(backToKw fQ (keywordEach [] X.env)).all (fun x=>x.1.isSome)
   && decide ((e::es).length+([]:List Keyword).length+(if([]:List Keyword).isEmpty then 0 else 1)<30))=true:=by rfl)(hline:(apos.endLine==fQ.line)=true:=by rfl)(hs:starEach (e::es) X.env=(false,eval e X.env)::starEach es X.env:=by rfl)(Dj:(backTo fQ (starEach es X.env)).any (·.1)=false:=by rfl) :
  PE X (.Call (.Attribute o name apos) (e::es) [] fQ) (pH X.K T r to t):=by
 intro pins s σ H Q I h;refine wpAny_Call_method_late hC hJ hline rfl (aD (ho pins s σ H _ I h) fun v s1 ⟨x,H1,I1,r1,ty,q1⟩=>?_);obtain⟨h1,h2⟩:=aay I1 r1 ty;refine⟨T,id,pa,slot,FK,h1,h2,?_⟩;have hA:=ha fQ pins s1 σ H1 _ I1 q1;rw[hs]at hA ⊢;refine Calls.callWith_builtin (by show(false || (backTo fQ (starEach es X.env)).any (·.1))=false;rw[Dj]<;>rfl) (Calls.evalArgs_plain ?_);exact aD hA fun us s2 ⟨vs,H2,I2,r2,q2⟩=>hm pins s2 σ H2 x vs v us Q I2 r1 r2 q2
end
def zf (X:Cx)(id:String)(r:V->List V->Hp->VK->Prop):Prop :=
 ∀ (pins:List (Addr×Obj)) (s:Shared) (σ:St) (H:Hp) (x:V) (xs:List V) (v:Value) (us:List Value) (Q:VK),Inv X pins σ H s->RelV x v->Vals xs us->r x xs H Q ->
  wpAny (model X.prog X.w) X.A (call (.builtin id) (v::us)) (EP X pins σ Q) X.xe s
theorem Vals.one:∀ {x:V} {us:List Value},Vals [x] us->∃ u,us=[u]/\RelV x u
 |_,_,.cons r .nil=>⟨_,rfl,r⟩
theorem Vals.two:∀ {x y:V} {us:List Value},Vals [x,y] us->∃ u v,us=[u,v]/\RelV x u/\RelV y v
 |_,_,_,.cons r (.cons q .nil)=>⟨_,_,rfl,r,q⟩
theorem Vals.eraseIdx:∀ {xs:List V} {us:List Value} (i:Nat),Vals xs us->Vals (xs.eraseIdx i) (us.eraseIdx i)
 |_,_,_,.nil=>.nil
 |_,_,0,.cons _ t=>t
 |_,_,i+1,.cons r t=>.cons r (Vals.eraseIdx i t)
theorem Vals.rep {xs:List V}{us:List Value}(h:Vals xs us):∀ k:Nat,Vals (List.replicate k xs).flatten (List.replicate k us).flatten
 |0=>.nil
 |k+1=>by
  rw[Pd,Pd,ajo,ajo];exact Vals.append h (Vals.rep h k)
theorem L3 {α:Type}:∀ (l:List α) (i:Nat),(l.eraseIdx i).length<=l.length
 |[],_=>br _
 |_::_,0=>Nat.le_succ _
 |_::r,i+1=>akX (L3 r i)
theorem foldl_rep (its:List Value):∀ (k:Nat) (acc:List Value),
  List.foldl (fun x1 x2=>x1++x2) acc.toArray (List.replicate k its.toArray)=(acc++(List.replicate k its).flatten).toArray
 |0,acc=>by simp
 |k+1,acc=>by
  have e:acc.toArray++its.toArray=(acc++its).toArray:=by simp
  have e2:(acc++its)++(List.replicate k its).flatten=acc++(List.replicate (k+1) its).flatten:=by
   rw[Pd,ajo,ID]
  rw[<- e2,<- foldl_rep its k (acc++its),<- e,Pd,akn]
section
variable {X:Cx}{pins:List (Addr×Obj)}{σ:St}{H:Hp}{s:Shared}{l b:Addr}{xs ys zs:List V}
theorem Inv.E1 {its its':List Value}{n:Nat}{f:Array Value->Array Value}{t':Nat}(I:Inv X pins σ H s)(hH:H l=some (.lst xs))(e:s.heap.get? l=some { cls:=.type "list",data:=.seq its.toArray n })(hf:f its.toArray=its'.toArray)(hv:Vals ys its')(hz:ys.length<=sizeLine) :
  Inv X pins σ (upd H l (.lst ys)) { s with heap:=s.heap.update l (Obj.mapSeq f),toks:=t' }:=by
 have q:=PySem.IsL.update e f;rw[hf]at q;refine I.write (x:=l) (e:=l) (by rw[hH];exact trivial) (.inl rfl) (fun b' u hb hu=>(Heap.get?_update_other s.heap (Obj.mapSeq f) (Ne.symm hb)).trans hu) ⟨_,q⟩ ?_;exact⟨hz,its',_,hv,q⟩
theorem Inv.yP {its:List Value}{t':Nat}(I:Inv X pins σ H s)(hv:Vals ys its)(hz:ys.length<=sizeLine) :
  Inv X pins σ (upd H s.heap.objs.size (.lst ys)) { s with heap:=s.heap.push { cls:=.type "list",data:=.seq its.toArray },toks:=t' } :=
 I.laid (fun _ _ q=>Cc _ q) (br _) ⟨hz,its,0,hv,EO _ rfl⟩
theorem Inv.fresh (I:Inv X pins σ H s):H s.heap.objs.size=none:=I.aA.fresh (br _)
theorem Inv.uY (I:Inv X pins σ H s)(hH:H l=some (.lst xs)):xs.length<=sizeLine/\∃ (its:List Value) (n:Nat),Vals xs its/\xs.length=its.length/\s.heap.get? l=some { cls:=.type "list",data:=.seq its.toArray n }:=by
 obtain⟨z,its,n,r,e⟩:=I.aA l _ hH;exact⟨z,its,n,r,r.length,e⟩
theorem MA {n:Nat}(h:n<=sizeLine):Builtin.List.listTooLong n=false:=by
 unfold Builtin.List.listTooLong;exact tw (by omega)
end
section
variable {X:Cx}
def xC:V->List V->Hp->VK->Prop:=fun x vs H Q=>∃ l xs y,x=.ref l/\vs=[y]/\H l=some (.lst xs)/\xs.length<sizeLine/\Q .aH (upd H l (.lst (xs++[y])))
theorem t6:zf X "list.append" xC:=by
 intro pins s σ H x vs v us Q I rx rv h;obtain⟨l,xs,y,rfl,rfl,hH,hz,q⟩:=h;cases rx;obtain⟨u,rfl,ru⟩:=rv.one;obtain⟨z,its,n,r,hl,e⟩:=I.uY hH;refine akN F.slot_list_append ⟨_,e,rfl⟩ F.entry_list_append (F.args_list_append_2 _ _) (PySem.list_append l its.toArray n u (by rw[uu];omega)) ⟨e,?_⟩;refine⟨.aH,_,I.E1 (its':=its++[u]) hH e (by simp) (r.append (.cons ru .nil)) ?_,rfl,q⟩;rw[qr,EM];omega
def NC:V->List V->Hp->VK->Prop:=fun x vs H Q=>∃ l b xs zs,x=.ref l/\vs=[.ref b]/\H l=some (.lst xs)/\H b=some (.lst zs)/\xs.length+zs.length<=sizeLine/\Q .aH (upd H l (.lst (xs++zs)))
theorem Xw:zf X "list.extend" NC:=by
 intro pins s σ H x vs v us Q I rx rv h;obtain⟨l,b,xs,zs,rfl,rfl,hH,hB,hz,q⟩:=h;cases rx;obtain⟨u,rfl,ru⟩:=rv.one;cases ru;obtain⟨z,its,n,r,hl,e⟩:=I.uY hH;obtain⟨z2,hU,n2,r2,fV,e2⟩:=I.uY hB;have hsz:its.toArray.size+hU.toArray.size<=sizeLine:=by rw[uu,uu];omega
 have D7:¬ (!its.toArray.isEmpty&&Builtin.List.listTooLong (its.toArray.size+hU.toArray.size))=true:=by
  rw[MA hsz,ajv];exact AE
 refine akN F.slot_list_extend ⟨_,e,rfl⟩ F.entry_list_extend (F.args_list_extend_2 _ _)
  (AutoSeq1.list_extend_list_list_0 l its.toArray n b hU.toArray n2 D7 (by rw[uu];omega) (by omega)) ⟨e,e2,?_⟩
 refine⟨.aH,_,I.E1 (its':=its++hU) hH e (by simp) (r.append r2) ?_,rfl,q⟩;rw[qr];omega
def OJ:V->List V->Hp->VK->Prop:=fun x vs H Q=>∃ l xs i k y,x=.ref l/\vs=[.int i]/\H l=some (.lst xs) /\ -(2 ^ 63)<=i/\i<2 ^ 63/\seqIndex? i xs.length=some k/\xs[k]?=some y/\Q y (upd H l (.lst (xs.eraseIdx k)))
theorem Yd:zf X "list.pop" OJ:=by
 intro pins s σ H x vs v us Q I rx rv h;obtain⟨l,xs,i,k,y,rfl,rfl,hH,h1,h2,hk,hy,q⟩:=h;cases rx;obtain⟨u,rfl,ru⟩:=rv.one;obtain⟨t,rfl⟩:=ru;obtain⟨z,its,n,r,hl,e⟩:=I.uY hH;obtain⟨w,hw,iq⟩:=r.get hy;refine akN F.slot_list_pop ⟨_,e,rfl⟩ F.entry_list_pop (F.args_list_pop_2 _ _)
  (MeetsSeq.list_pop_at l its.toArray n i t k w (fitsIndex_both h1 h2) (by rw[uu,<- hl];exact hk) (by rw[<- PM];exact hw) (by rw[uu];omega)) ⟨e,?_⟩
 refine⟨y,_,I.E1 (its':=its.eraseIdx k) hH e ?_ (r.eraseIdx k) ?_,iq,q⟩
 ·show its.toArray.eraseIdxIfInBounds k=(its.eraseIdx k).toArray;rw[List.eraseIdxIfInBounds_toArray]
 ·have:=L3 xs k;omega
def QK:R2:=fun x y H Q=>∃ l k xs,x=.ref l/\y=.int k/\H l=some (.lst xs) /\ -(2 ^ 63)<=k/\k<2 ^ 63/\xs.length*k.toNat<=sizeLine /\
 ∀ p,H p=none->Q (.ref p) (upd H p (.lst (List.replicate k.toNat xs).flatten))
theorem len_rep {α:Type}(xs:List α)(k:Nat):(List.replicate k xs).flatten.length=k*xs.length:=by
 induction k with
 |zero=>simp
 |succ k ih=>rw[Pd,ajo,qr,ih,Nat.succ_mul,Nat.add_comm]
theorem aaz:cX X (binaryOp .Mult) QK:=by
 intro pins s σ H x y v u Q I rx ry h;obtain⟨l,k,xs,rfl,rfl,hH,h1,h2,hz,q⟩:=h;cases rx;obtain⟨t,rfl⟩:=ry;obtain⟨z,its,n,r,hl,e⟩:=I.uY hH;have hlen:its.toArray.size*k.toNat<=sizeLine:=by rw[uu,<- hl];exact hz
 have acy:¬ its.toArray.size*k.toNat > (2 ^ 63-1) / 8:=by
  have:(sizeLine:Nat)<=(2 ^ 63-1) / 8:=by decide
  omega
 have acz:¬ (!Builtin.List.listFitsIndex k)=true:=by
  rw[fitsIndex_both h1 h2];exact AE
 have D7:¬ Builtin.List.listTooLong (its.toArray.size*k.toNat)=true:=by
  rw[MA hlen];exact AE
 have acA:List.foldl (fun x1 x2=>x1++x2) #[] (List.replicate (if its.toArray.isEmpty=true then 0 else k.toNat) its.toArray)=(List.replicate k.toNat its).flatten.toArray:=by
  have f0:∀ m:Nat,List.foldl (fun x1 x2=>x1++x2) #[] (List.replicate m its.toArray)=(List.replicate m its).flatten.toArray:=fun m=>by
   have:=foldl_rep its m [];rw[WS]at this;exact this
  rw[f0];cases its with
  |nil=>simp
  |cons a r'=>rw[mf (by simp)]
 refine wpAny_binaryOp_repeat_ref (T := "list") (U := "int") (by decide) ⟨_,e,rfl⟩ (fun s'=>typeIs_int s' k t) noFill_list_mul F.fills_int_mul F.slot_int_rmul repeat_list F.slot_int_index.lookup
  (akN F.slot_int_rmul (typeIs_int s k t) F.entry_int_rmul (F.args_int_rmul_2 _ _) (int___rmul___int_list k t l its.toArray n)
   ⟨e,rfl,⟨_,e,rfl⟩,akN F.slot_list_mul ⟨_,e,rfl⟩ F.entry_list_mul (F.args_list_mul_2 _ _) (AutoListH.list___mul___list_int_3 l its.toArray n k t acz acy D7) ⟨e,?_⟩⟩)
 rw[acA];exact⟨.ref _,_,I.yP (t':=s.toks) (r.rep k.toNat) (by rw[len_rep,Nat.mul_comm];exact hz),rfl,q _ I.fresh⟩
end
end L2
namespace Sv
open PySem PySem.W PySem.Calls PyProof.Rows
theorem Vj {P:Params}{h:Heap}:∀ (ns:LI) (vs:List Value),WellAll P h vs (ns.map WData.int)->IntsAre vs ns:=by
 intro ns
 induction ns with
 |nil =>
  intro vs w;rw[ai5]at w;cases w;exact .nil
 |cons n ns ih =>
  intro vs w;rw[i8]at w;cases w with
  |cons a b =>
   cases a
   exact .cons _ _ (ih _ b)
theorem Xx {l:OpenLaw}{n:Nat}(hn:l.most=some n){P:Params}{h:Heap}{args:List WData}{vals:List Value}(yQ:l.row.toRowW.claim.pre args=true)(FL:WellAll P h vals args) :
  ∃ a vs ns,vals=[Value.ref a]/\args=[WData.list (ns.map WData.int)]/\h.get? a=some { cls:=.type "list",data:=.seq vs.toArray }/\IntsAre vs ns/\ns.length<=n:=by
 have hsh:WShape.hasAll [] args [.list .int]=true:=(pre_splitW yQ).1;have hc:l.pre.holds [] { args:=args }=true:=(pre_splitW yQ).2;obtain⟨d,r,rfl,h1,h2⟩:=hasAllW_cons hsh;obtain rfl:=hasAllW_nil h2;obtain⟨xs,rfl,h3⟩:=hasW_list h1;obtain⟨ns,rfl⟩:=items_int h3;have hlen:ns.length<=n:=by
  unfold OpenLaw.pre at hc;have h4:(WTm.not (.lt (.lit (.int (n:Int))) (.len (.arg 0)))).holds [] { args:=[.list (ns.map .int)] }=true:=by
   have h4:=(holds_andW hc).1;rw[hn]at h4;exact h4
  have h5:=condW_of h4 (w_not (w_lt w_lit (w_len_list (w_arg rfl))));rw[aa]at h5;refine Nat.le_of_not_lt fun q=>?_
  have q':(n:Int)<((ns.length:Nat):Int):=by omega
  first
   |(rw[u4 q']at h5;exact absurd h5 (by decide))
   |(simp at h5;omega)
 cases FL with
 |cons w1 w2 =>
  cases w2
  cases w1 with
  |list ho E2=>exact⟨_,_,ns,rfl,rfl,ho,Vj ns _ E2,hlen⟩
theorem Xy (l:OpenLaw)(args:List WData):l.row.toRowW.claim.post args (.bool true) args=true :=
 postW_of (r:=l.row.toRowW) (X:=(true==true))
  (show WShape.has [] (.bool true) .bool=true by first | rfl | decide | simp[WShape.has,WShape.arms,WShape.armsAll])
  (show(WTm.eq .res (.lit (.bool true))).value [] { args:=args,res:=some (.bool true),after:=args }=some (.bool (true==true))from w_eq_bool (w_res rfl) w_lit) rfl
theorem Ws {l:OpenLaw}{n:Nat}{q:Program}{loose:List Str}{XP:(Str->Option Value)->Heap->Prop}{YP:World->Heap->Prop}{d:DefRec}(hn:l.most=some n)(vF:d.params.defaults=[])(call:∀ (w:World) (dW bK:Shared) (mg mb:Str->Option Value) (fa:Addr) (o:Obj) (pm cd doc:Value) (a:Addr) (vs:List Value) (ns:LI),
   Ground q loose [] XP w dW mg mb bK.heap->YP w bK.heap ->
   bK.heap.get? fa=some o->o.data=.func (docDef d.name d.params d.body d.scope pm cd doc)->bK.heap.CodeRec cd d.name->mg d.name=some (.ref fa) ->
   bK.heap.get? a=some { cls:=.type "list",data:=.seq vs.toArray }->IntsAre vs ns->ns.length<=n->bK.gens=#[] ->
   codeAny (model l.prog w) callerA (.call (.ref fa) ⟨[.ref a],[]⟩) (fun r s'=>r=.ok (.ret (.bool true))/\OldK bK.heap s'.heap/\s'.os=bK.os/\AllBare s'.gens) bK) :
  WalkO q loose XP YP l.row.toRowW d [] (fun f vs=>PySem.call f vs):=by
 intro w dW bK mg mb G Y fa o pm cd doc dV kV ho hd gC hD vG hg args vals as yQ aiR hrd FL FN;obtain rfl:dV=.none:=Dflts.none hD vF;obtain rfl:kV=.none:=Dflts.noKw hD;obtain⟨a,vs,ns,rfl,rfl,E3,hints,hlen⟩:=Xx hn yQ FL;refine enter_call (codeAny_mono (call w dW bK mg mb fa o pm cd doc a vs ns G Y ho (fd_plain hd) gC vG E3 hints hlen hg) fun r s' hq=>?_);obtain⟨rfl,h2,h3,h4⟩:=hq;exact⟨.inl ⟨.bool true,.bool true,[],rfl,fun _=>rfl,.bool true,Xy l _,fun _=>⟨List.Pairwise.nil,fun _ hm=>(nomatch hm)⟩⟩,h2,h3,h4⟩
end Sv
namespace L2
open PySem PySem.Spec PyProof.Rows
theorem wL:∀ {vs:List Value} {ns:LI},IntsAre vs ns->Vals (ns.map V.int) vs
 |_,_,.nil=>.nil
 |_,_,.cons n t h=>.cons ⟨t,rfl⟩ (wL h)
def E4 (H:Hp):Prop:=∀ b,H b=none\/∃ o xs,H b=some (.dP o (.lst xs))
theorem Ye {P:Program}{w:World}{K:Frag}{mg mb:Str->Option Value}{CX:iO}{k:Nat}{fa a:Addr}{fd:FuncData}{x:Str}{sp:Sp}{bK:Shared}{vs:List Value}{ns:LI}(KX:K.In bK.heap)(iz:bK.heap.Ns mainGlobals mg)(hb:bK.heap.Ns builtinsNs mb)(hbb:∀ x:Str,x ≠ "__name__" -> mb x=bootBuiltins x)(acB:bK.heap.NoLimit)(hg:bK.gens=#[])(ha:bK.heap.get? a=some { cls:=.type "list",data:=.seq vs.toArray })(hi:IntsAre vs ns)(hl:ns.length<=sizeLine)(hr:eh k callerA)(F:∀ base:Heap,K.In base->base.Ns mainGlobals mg->aJ P w K mg base CX k fa fd [x] sp)(abV:∀ (s:Shared) (u:Value),BindsTo s fd ⟨[u],[]⟩ [(x,u)])(kX:∀ H:Hp,E4 H->aL K H a (ns.map V.int)->sp [.ref a] H (fun v _=>v=.bl true) fun _ _ _=>False)(FO:∀ H e s',CX [] H bK (fun _ _ _=>False) e s'->False) :
  codeAny (model P w) callerA (.call (.ref fa) ⟨[.ref a],[]⟩) (fun r s'=>r=.ok (.ret (.bool true))/\OldK bK.heap s'.heap/\s'.os=bK.os/\AllBare s'.gens) bK:=by
 have rv:=wL hi;have acC:=hi.length;have core:∀ H:Hp,E4 H->aL K H a (ns.map V.int)->cA P w H bK.heap->(∀ b,H b ≠ none->b=a)->(H a ≠ none->K.lookup a=none) ->
   codeAny (model P w) callerA (.call (.ref fa) ⟨[.ref a],[]⟩) (fun r s'=>r=.ok (.ret (.bool true))/\OldK bK.heap s'.heap/\s'.os=bK.os/\AllBare s'.gens) bK:=by
  intro H hO hS aA hA hK;have ND:∀ {b:Addr} {o:Obj},bK.heap.get? b=some o->H b=none->(lY bK.heap H).get? b=some o:=fun e n=>X8 e n
  have vC:∀ {b:Addr} {o:Obj} {es:Array DictEntry} {ep:Nat},bK.heap.get? b=some o->o.data=.dict es ep->H b=none:=fun {b o es ep} e d=>by
   cases q:H b with
   |none=>rfl
   |some u =>
    have e':b=a:=hA b (by rw[q];simp);subst e';rw[ha]at e;cases e;have d':Data.seq vs.toArray _=Data.dict es ep:=d;cases d'
  have zg:∀ {b:Addr} {m:Str->Option Value},bK.heap.Ns b m->(lY bK.heap H).Ns b m:=fun {b m} ⟨o,es,ep,e,d,r⟩=>⟨o,es,ep,ND e (vC e d),d,r⟩
  have Sw:K.In (lY bK.heap H):=fun b o e=>ND (KX b o e) (by
   cases q:H b with
   |none=>rfl
   |some u =>
    have e':b=a:=hA b (by rw[q];simp);subst e';rw[hK (by rw[q];simp)]at e;cases e)
  have hM:Mod K mg (lY bK.heap H):=⟨Sw,zg iz,⟨mb,zg hb,hbb⟩,let ⟨mc,h1,h2⟩:=acB;⟨mc,zg h1,h2⟩⟩
  have e0:yN P w K mg (lY bK.heap H) callerA [] bK H:=⟨rfl,hM,fun b o e=>Zf e,Nat.le_of_eq (Xl _ _),trivial,fun b hb=>absurd (show b ∈ ([]:List Addr)from hb) (by simp),aA,.of_eq hg⟩
  refine codeAny_mono ((F _ Sw (zg iz)).run callerA [] bK H ⟨[.ref a],[]⟩ [.ref a] [.ref a] _ _ hr e0 (abV bK (.ref a)) (.cons rfl .nil) (kX H hO hS)) fun r s' h=>?_
  cases r with
  |error e=>exact(FO H e s' h).elim
  |ok fl =>
   cases fl with
   |next=>exact False.elim h
   |brk=>exact False.elim h
   |cont=>exact False.elim h
   |ret u =>
    obtain⟨v,H',os,bare,un,acD,r',q⟩:=h;have q':v=.bl true:=q;subst q';obtain rfl:u=Value.bool true:=r';refine⟨rfl,OldK.of_keep fun b o e=>?_,os,bare⟩;cases q:H b with
    |none=>exact un.keep b o e q (by intro z;exact absurd (show b ∈ ([]:List Addr)from z) (by simp)) (by simp)
    |some u =>
     rcases hO b with z | ⟨ob,xs,z⟩
     ·rw[q]at z;cases z
     ·have z2:=un.jZ b ob _ z;obtain⟨e1,_⟩:=aA b _ z;obtain⟨e2,_⟩:=acD b _ z2;rw[e]at e1;cases e1;exact e2
 cases hk:K.lookup a with
 |some o =>
  have e:=KX a o hk;rw[ha]at e;cases e;refine core (fun _=>none) (fun _=>.inl rfl) (.inr ⟨_,vs.toArray,_,hk,rfl,rfl,rfl,by rw[uu,acC];exact hl,by simpa using rv⟩) (fun b u z=>by have z':(none:Option HO)=some u:=z;cases z') (fun b z=>absurd rfl z) fun z=>absurd rfl z
 |none =>
  refine core (fun b=>if b=a then some (.dP { cls:=.type "list",data:=.seq vs.toArray } (.lst (ns.map V.int)))else none) (fun b=>?_) (.inl (.inr ⟨{ cls:=.type "list",data:=.seq vs.toArray },lp rfl⟩)) (fun b u z=>?_) (fun b z=>?_) fun _=>hk
  ·by_cases hb:b=a
   ·exact .inr ⟨_,_,lp hb⟩
   ·exact .inl (mf hb)
  ·by_cases hb:b=a
   ·have z':=(lp hb).symm.trans z;cases z';subst hb;exact⟨ha,by rw[aa];exact hl,vs,_,rv,ha⟩
   ·have z':=(mf hb).symm.trans z;cases z'
  ·by_cases hb:b=a
   ·exact hb
   ·exact absurd (mf hb) z
theorem Zm {l:PySem.W.OpenLaw}{n k:Nat}{q:Program}{loose:List Str}{XP:(Str->Option Value)->Heap->Prop}{YP:World->Heap->Prop}{d:DefRec}{K:Params->Frag}{CX:World->iO}{sp:World->Sp}{x:Str}(hn:l.most=some n)(pI:n<=sizeLine)(vF:d.params.defaults=[])(hr:eh k callerA)(hY:∀ (w:World) (h:Heap),YP w h->(K w.params).In h)(F:∀ (w:World) (mg:Str->Option Value) (fa:Addr) (h:Heap),(K w.params).In h->h.Ns mainGlobals mg->mg d.name=some (.ref fa) ->
   ∃ fd:FuncData,(∀ (s:Shared) (u:Value),BindsTo s fd ⟨[u],[]⟩ [(x,u)]) /\
    ∀ base:Heap,(K w.params).In base->base.Ns mainGlobals mg->aJ l.prog w (K w.params) mg base (CX w) k fa fd [x] (sp w))(kX:∀ (w:World) (H:Hp) (a:Addr) (ns:LI),ns.length<=n->E4 H->aL (K w.params) H a (ns.map V.int)->sp w [.ref a] H (fun v _=>v=.bl true) fun _ _ _=>False)(FO:∀ (w:World) (H:Hp) (s:Shared) (e:Value) (s':Shared),CX w [] H s (fun _ _ _=>False) e s'->False) :
  PySem.W.WalkO q loose XP YP l.row.toRowW d [] (fun f vs=>PySem.call f vs):=by
 refine Sv.Ws hn vF fun w dW bK mg mb fa o pm cd doc a vs ns G Y ho hd gC vG E3 hints hlen hg=>?_
 have KX:=hY w _ Y;obtain⟨fd,hb,hF⟩:=F w mg fa _ KX G.T.g vG;exact Ye KX G.T.g G.T.b G.T.builtins G.T.nolimit hg E3 hints (zd hlen pI) hr hF hb (fun H hO hS=>kX w H a ns hlen hO hS) fun H e s'=>FO w H bK e s'
def aS (s:Stmt):Arguments:=match s with
 | .FunctionDef _ a _ _ _ _ _ _ _ _=>a
 |_=>{ posonlyargs:=[],args:=[],vararg:=none,kwonlyargs:=[],kw_defaults:=[],kwarg:=none,defaults:=[] }
def aM (s:Stmt):List Stmt:=match s with
 | .FunctionDef _ _ b _ _ _ _ _ _ _=>b
 |_=>[]
def aq (s:Stmt):Scope:=match s with
 | .FunctionDef _ _ _ _ _ _ sc _ _ _=>sc
 |_=>{ kind:=.function,names:=[],isGenerator:=false,isCoroutine:=false }
abbrev ak:iO:=fun _ _ _ _ _ _=>False
abbrev E0:XK:=fun _ _ _=>False
theorem P6 {X:Cx}:Passes ak X E0:=fun _ _ _ _ _ _ _ h=>h.elim
structure aV (K:Frag) (x qual:Str) (st:Stmt) (f:Addr) (fd:FuncData):Prop where
 ex:∃ (oc:Value) (od:Option Addr) (kV doc pm:Value) (an:Option Addr) (bg ct:Value) (iP:Array (Option Value)),
  fd=fnOf x qual (aS st) (aM st) (aq st) .none kV doc pm an bg ct/\K.lookup f=some ⟨oc,od,.func fd,iP⟩/\codeIn K bg qual=true
 kp:keepIn K (.ref f)=true
section
variable {P:Program}{w:World}{K:Frag}{mg:Str->Option Value}{base:Heap}
theorem aV.ok {x qual:Str}{st:Stmt}{f:Addr}{fd:FuncData}{N ps:List Str}{k:Nat}{sp:Sp}(F:aV K x qual st f fd)(S:aZ N ps (aq st))(len:∀ vs H Q E,sp vs H Q E->vs.length=ps.length)(uM:∀ (bg:Value) (A:Around) (outer:List Env) (s:Shared) (H:Hp) (vs:List V) (Q:VK) (E:XK),eh k (A.deeper (envOfC qual (aq st) s.heap.objs.size f bg))->sp vs H Q E ->
   ∃ t,fU (jg ak P w K mg base N qual (aq st) f bg A outer s H E).mE (aM st) t/\t { nx:=fun _ H'=>Q .aH H',rt:=Q } (start N vs) H):aJ P w K mg base ak (k+1) f fd ps sp:=by
 obtain⟨oc,od,kV,doc,pm,an,bg,ct,iP,rfl,lk,gC⟩:=F.ex;refine P5 lk gC S len fun A outer s H vs Q E hr kX=>?_
 obtain⟨t,h,q⟩:=uM bg A outer s H vs Q E hr kX;exact⟨t,h.mE,q⟩
theorem aV.binds {x qual:Str}{st:Stmt}{f:Addr}{fd:FuncData}{ps:List Str}(F:aV K x qual st f fd)(h:∀ (kV doc pm:Value) (an:Option Addr) (bg ct:Value) (us:List Value),us.length=ps.length->bindArgs (fnOf x qual (aS st) (aM st) (aq st) .none kV doc pm an bg ct) ⟨us,[]⟩=pure (ps.zip us)):Binds K fd ps []:=by
 obtain⟨oc,od,kV,doc,pm,an,bg,ct,iP,rfl,lk,gC⟩:=F.ex;exact .all (h kV doc pm an bg ct)
theorem bz {x qual:Str}{st:Stmt}{f:Addr}{oc:Value}{od an:Option Addr}{iP:Array (Option Value)}{kV doc pm bg ct:Value}(l:K.lookup f=some ⟨oc,od,.func (fnOf x qual (aS st) (aM st) (aq st) .none kV doc pm an bg ct),iP⟩)(c:codeIn K bg qual=true)(k:keepIn K (.ref f)=true):aV K x qual st f (fnOf x qual (aS st) (aM st) (aq st) .none kV doc pm an bg ct):=⟨⟨oc,od,kV,doc,pm,an,bg,ct,iP,rfl,l,c⟩,k⟩
end
theorem D8 {A:Around}{k:Nat}(hr:eh k A):A.units+1<cLine:=EU (NH (by decide : 1<=64) _) hr.units
section
variable {X:Cx}
theorem pv (i:Nat){x:Str}{pos:Pos}(hN:X.N[i]?=some x:=by rfl)(hv:jI X.env.scope x:=by first | exact Or.inl rfl | exact Or.inr (Or.inl rfl) | exact Or.inr (Or.inr rfl))(hd:(x==("__debug__" : Str))=false:=by decide)(gC:(x==("__classdict__" : Str))=false:=by decide):PE X (.Name x pos) (bU i):=m4 hN hv hd gC
end
theorem eR {A B:Prop}(h:B):if false=true then A else B:=by
 rw[mf AE];exact h
theorem gx {A B:Prop}(h:A):if true=true then A else B:=by
 rw[lp rfl];exact h
def au (H H':Hp):Prop:=∀ b o,H b=some o->H' b=some o
theorem au.refl (H:Hp):au H H:=fun _ _ h=>h
theorem au.trans {H H1 H2:Hp}(a:au H H1)(b:au H1 H2):au H H2:=fun c o h=>b c o (a c o h)
theorem au.free {H H':Hp}(e:au H H'){l:Addr}(h:H' l=Option.none):H l=Option.none:=by
 cases q:H l with
 |none=>rfl
 |some o =>
  rw[e l o q]at h;cases h
theorem au.seq {K:Frag}{H H':Hp}{a:Addr}{xs:List V}(e:au H H')(h:aL K H a xs):aL K H' a xs:=by
 rcases h with(h | ⟨o,h⟩) | h
 ·exact .inl (.inl (e _ _ h))
 ·exact .inl (.inr ⟨o,e _ _ h⟩)
 ·exact .inr h
abbrev cR:Value->Shared->Prop:=fun _ _=>False
theorem FP {α:Type}{M:Model}{A:Around}{m:Sem α}{Q : α->Shared->Prop}{E:Value->Shared->Prop}{s:Shared}(h:wpAny M A m Q cR s):wpAny M A m Q E s :=
 ajC h (fun _ _ q=>q) fun _ _ z=>z.elim
abbrev lN (ifs:List Expr)(env:Env):Sem Bool :=
 forIn ifs true fun c r=>if r=true then do let ok <- isTrue c env (eval c env);pure (ForInStep.yield ok)else pure (ForInStep.yield r)
theorem OL {P:Program}{w:World}{A:Around}{R:Result->Shared->Prop}{s:Shared}{elt tg iter:Expr}{ifs:List Expr}{sc:Scope}{pos:Pos}{it acc:Value}{env:Env}(I:Nat->Shared->Prop)(turn:∀ n s,I n s->wpAny (model P w) A (pyNext it) (fun r s1=>match r with
   |none=>R (.ok .next) s1
   |some v=>wpAny (model P w) A (letOwnedTupleGo tg it v) (fun _ s2=>wpAny (model P w) A (assign tg env v) (fun _ s3 =>
     wpAny (model P w) A (lN ifs env) (fun ok s4=>if ok=true then wpAny (model P w) A (eval elt env) (fun x s5 =>
       wpAny (model P w) A (call (.builtin "list.append") [acc,x]) (fun _ s6=>∃ m,m<n/\I m s6) cR s5) cR s4
      else ∃ m,m<n/\I m s4) cR s3) cR s2) cR s1) cR s)(n:Nat)(h:I n s):codeAny (model P w) A (.compLoop (.ListComp elt [⟨tg,iter,ifs,0⟩] sc pos) 0 it acc env) R s:=by
 refine codeAny_loop rfl I (fun n s hI=>?_) n h;show wpAny (model P w) A ((compTurn (.ListComp elt [⟨tg,iter,ifs,0⟩] sc pos) 0 it acc env).onRaise (fun x=>do noteFrame x env;theTreesLotGoes x)) _ _ s;refine wpAny_noted (FP ?_);rw[compTurn_list];refine ff (akT (ff (aD (turn n s hI) fun r s1 h1=>?_)));cases r with
 |none=>exact xp h1
 |some v =>
  refine ff (aD h1 fun _ s2 h2=>ff (aD h2 fun _ s3 h3=>ff (aD h3 fun ok s4 h4=>?_)));cases ok with
  |false=>exact xp ⟨rfl,h4⟩
  |true=>exact ff (ff (aD h4 fun x s5 h5=>ff (aD h5 fun _ s6 h6=>xp (xp ⟨rfl,h6⟩))))
theorem uj:∀ (names:List (Str×NameKind)) (n:Nat) (acc:List (Str×Addr)) (y:Str),(∃ c,acc.lookup y=some c)->∃ c,(cellsFrom n names acc).lookup y=some c
 |[],_,_,_,h=>h
 |(name,kind)::r,n,acc,y,⟨c,h⟩=>by
  unfold cellsFrom;split
  ·refine uj r _ _ y ?_;rw[DD];split
   ·exact⟨_,rfl⟩
   ·exact⟨c,h⟩
  ·exact uj r _ _ y ⟨c,h⟩
theorem ya:∀ (names:List (Str×NameKind)) (n:Nat) (acc:List (Str×Addr)) (y:Str),(y,NameKind.cell) ∈ names->∃ c,(cellsFrom n names acc).lookup y=some c
 |[],_,_,_,h=>nomatch h
 |(name,kind)::r,n,acc,y,h=>by
  unfold cellsFrom;rcases gr.mp h with e | h
  ·cases e
   rw[lp (by decide)];exact uj r _ _ _ ⟨n,by rw[List.lookup_cons_self]⟩
  ·split
   ·exact ya r _ _ y h
   ·exact ya r _ _ y h
theorem t7:∀ (names:List (Str×NameKind)) (n:Nat) (acc:List (Str×Addr)) (y:Str) (c:Addr),(cellsFrom n names acc).lookup y=some c->acc.lookup y=some c\/(n<=c/\(y,NameKind.cell) ∈ names)
 |[],_,_,_,_,h=>.inl h
 |(name,kind)::r,n,acc,y,c,h=>by
  unfold cellsFrom at h;split at h
  ·rename_i hk
   rcases t7 r _ _ y c h with q | ⟨q1,q2⟩
   ·rw[DD]at q;split at q
    ·rename_i hy
     cases q
     rw[OR.mp hy,<- OR.mp hk];exact .inr ⟨br _,.head _⟩
    ·exact .inl q
   ·exact .inr ⟨aiX q1,.tail _ q2⟩
  ·rcases t7 r _ _ y c h with q | ⟨q1,q2⟩
   ·exact .inl q
   ·exact .inr ⟨q1,.tail _ q2⟩
theorem Dk:∀ (names:List (Str×NameKind)) (n:Nat) (acc:List (Str×Addr)) (y:Str),(y,NameKind.cell) ∉ names->(cellsFrom n names acc).lookup y=acc.lookup y
 |[],_,_,_,_=>rfl
 |(name,kind)::r,n,acc,y,h=>by
  unfold cellsFrom;have hr:(y,NameKind.cell) ∉ r:=fun z=>h (.tail _ z)
  split
  ·rename_i hk
   rw[Dk r _ _ y hr,DD];split
   ·rename_i hy
    exact absurd (show(y,NameKind.cell) ∈ (name,kind)::r by rw[OR.mp hy,<- OR.mp hk];exact .head _) h
   ·rfl
  ·exact Dk r _ _ y hr
theorem Dm:∀ (names:List (Str×NameKind)) (n:Nat) (acc:List (Str×Addr)),(∀ y c,acc.lookup y=some c->c<n)->(∀ y z c,acc.lookup y=some c->acc.lookup z=some c->y=z) ->
  ∀ y z c,(cellsFrom n names acc).lookup y=some c->(cellsFrom n names acc).lookup z=some c->y=z
 |[],_,_,_,h=>h
 |(name,kind)::r,n,acc,h1,h2=>by
  unfold cellsFrom;split
  ·refine Dm r _ _ (fun y c e=>?_) fun y z c e e'=>?_
   ·rw[DD]at e;split at e
    ·cases e;exact akd _
    ·exact aiY (h1 y c e)
   ·rw[DD]at e e';split at e
    ·rename_i hy
     cases e
     split at e'
     ·rename_i hz
      rw[OR.mp hy,OR.mp hz]
     ·exact absurd (h1 z _ e') (YI _)
    ·split at e'
     ·cases e'
      exact absurd (h1 y _ e) (YI _)
     ·exact h2 y z c e e'
  ·exact Dm r _ _ h1 h2
theorem xD:∀ (names:List (Str×NameKind)) (h:Heap) (acc:List (Str×Addr)) (y:Str) (c:Addr),(cellsFrom h.objs.size names acc).lookup y=some c->acc.lookup y=some c\/(pushCells h names).IsCell c none
 |[],_,_,_,_,e=>.inl e
 |(name,kind)::r,h,acc,y,c,e=>by
  unfold cellsFrom at e;unfold pushCells;split
  ·rename_i hk
   rw[lp hk]at e;rw[show h.objs.size+1=(h.push { cls:=.type "cell",data:=.cell none }).objs.size from(akI ..).symm]at e;rcases xD r _ _ y c e with q | q
   ·rw[DD]at q;split at q
    ·cases q
     exact .inr (Heap.IsCell.keeps ⟨_,EO _ rfl,rfl⟩ (ajI r _))
    ·exact .inl q
   ·exact .inr q
  ·rename_i hk
   rw[mf hk]at e;exact xD r _ _ y c e
theorem Lh {M:Model}{A:Around}{E:Value->Shared->Prop}{s:Shared}{scope:Scope}{globals:Addr}{cl:List (Str×Addr)}{qual:Str}{func:Option Addr}{code:Value}{env:Env}{builtins:Addr}{Q:Env->Shared->Prop}(hQ:Q (newEnv scope s.heap.objs.size globals (cellsFrom (s.heap.objs.size+1) scope.names cl) qual func code (some env) builtins) { s with heap:=pushCells (s.heap.push { cls:=.type "dict",data:=.dict #[] }) scope.names }) :
  wpAny M A (newFunctionEnv scope globals cl [] qual func code (some env) builtins) Q E s:=by
 simp only[newFunctionEnv,Option.isSome_some,if_true];refine ff (wpAny_alloc ?_);refine ff (wpAny_layCells _ (fun name kind cells=>by cases hkc:kind==NameKind.cell<;>simp[hkc]) _ _ _ _ ?_);rw[show({ s with heap:=s.heap.push { cls:=.type "dict",data:=.dict #[] } }:Shared).heap.objs.size=s.heap.objs.size+1 from akI ..];rw[List.forIn_nil];exact ff (xp (xp hQ))
def dm (X:Cx)(own:List Str)(fr:List Nat)(sc:Scope)(cl:List (Str×Addr))(C:Addr)(s:Shared)(H:Hp)(ex:List Addr)(pn:List (Addr×Obj)):Cx where
 prog:=X.prog
 w:=X.w
 K:=X.K
 mg:=X.mg
 base:=X.base
 A:=X.A
 N:=own++fr.map fun j=>X.N.getD j ""
 dW:=s
 uU:=H
 env:=compEnvC sc (cellsFrom (C+1) sc.names cl) C X.env
 outer:=X.stack
 stack:=X.stack
 ex:=ex
 fn:=fun y=>(cl.lookup y).isNone
 calm:=X.calm
 pn:=pn
 xe:=cR
def uk (own:List Str)(fr:List Nat)(σ:St):St:=own.map (fun _=>none)++fr.map fun j=>(σ[j]?).join
structure iW (X:Cx) (sc:Scope) (cl:List (Str×Addr)) (fr:List Nat):Prop where
 QL:closureFor sc X.env=pure cl
 kind:sc.kind=.function
 cells:∀ y,(y,NameKind.cell) ∈ sc.names->cl.lookup y=none
 names:∀ y ∈ sc.names,y.2=.local->sc.names.lookup y.1=some .local
 sub:∀ y c,cl.lookup y=some c->X.env.cells.lookup y=some c
 has:∀ y,((relabel sc X.env).names.lookup y=some .cell\/(relabel sc X.env).names.lookup y=some .free)->(∃ c,cl.lookup y=some c)\/(y,NameKind.cell) ∈ sc.names
 frN:∀ j ∈ fr,∃ y,X.N[j]?=some y/\((relabel sc X.env).names.lookup y=some .cell\/(relabel sc X.env).names.lookup y=some .free)/\jI X.env.scope y/\X.env.scope.names.lookup y ≠ some .local/\∃ c,cl.lookup y=some c
def zh (wi:TI)(g:TG)(tt:TT)(te:TE)(own:List Str)(fr:List Nat):TE:=fun σ H Q=>wi σ H fun J H1=>∀ acc,H1 acc=none ->
 ∃ W:Nat->Nat->List V->St->Hp->Prop,(∃ m,W 0 m [] (uk own fr σ) (upd H1 acc (.lst [])))/\∀ i m ys aN H2,W i m ys aN H2->H2 acc=some (.lst ys)/\ys.length<sizeLine /\
  ((J.stop i H2/\Q (.ref acc) H2)\/(J.go i H2/\∃ N:List V->St->Hp->Prop,(∀ zs bE H3,N zs bE H3->∃ m',m'<m/\W (i+1) m' zs bE H3) /\
   ∀ x H3,J.nM i H2 x H3->g x aN H3 fun bE H4=>tt bE H4 fun b H5=>if b=true then te bE H5 (fun y H6=>H6 acc=some (.lst ys)/\N (ys++[y]) bE (upd H6 acc (.lst (ys++[y]))))else N ys bE H5))
theorem Zn {N:List Str}{j:Nat}{y:Str}(h:N[j]?=some y):N.getD j "" = y:=by rw[ba,h];rfl
theorem lcInv {X:Cx}{pins:List (Addr×Obj)}{σ:St}{H:Hp}{s:Shared}{sc:Scope}{cl:List (Str×Addr)}{own:List Str}{fr:List Nat}{fp:List Addr}{h4:Heap}{tk:Nat}(L:iW X sc cl fr)(I:Inv X pins σ H s)(zi:∀ b ∈ fp,jf X pins H b)(aT:∀ b ∈ fp,b<s.heap.objs.size)(iz:h4.Ns s.heap.objs.size fun _=>none)(kp:∀ b o,s.heap.get? b=some o->h4.get? b=some o)(pJ:∀ y c,(cellsFrom (s.heap.objs.size+1) sc.names cl).lookup y=some c->cl.lookup y=some c\/h4.IsCell c none):Inv (dm X own fr sc cl s.heap.objs.size s H fp (X.pn++pins)) [] (uk own fr σ) H { s with heap:=h4,toks:=tk }:=by
 have noL:∀ {b:Addr} {o:Obj},s.heap.get? b=some o->b ≠ s.heap.objs.size:=fun e=>Co (xy e)
 have hex:∀ b ∈ (dm X own fr sc cl s.heap.objs.size s H fp (X.pn++pins)).ex,b ∈ fp:=fun b z=>z
 have pA:∀ b,b ≠ X.env.locals->b ∉ X.fs->b ∉ eA X.stack:=fun b h1 h2 z=>(gr.mp (I.uB b z)).elim h1 h2
 have OM:∀ y c,cl.lookup y=some c->∃ v,s.heap.IsCell c v:=fun y c e=>I.cell y c (L.sub y c e)
 have split:∀ y c,(cellsFrom (s.heap.objs.size+1) sc.names cl).lookup y=some c->cl.lookup y=some c\/s.heap.objs.size+1<=c:=fun y c e=>(t7 _ _ _ y c e).imp id And.left
 refine⟨⟨I.ok.mod,L.kind,I.ok.glob,I.ok.blt,br _,Dm _ _ _ (fun y c e=>by obtain⟨v,q⟩:=OM y c e;exact aiY q.lt) (fun y z c h1 h2=>I.ok.inj y z c (L.sub y c h1) (L.sub z c h2)),fun y hy=>(L.has y hy).elim (uj _ _ _ y) (ya _ _ _ y),fun y c hy e=>?_,I.ok.hd,I.ok.frames,.inl rfl,
   fun b hb=>⟨Co (aT b (hex b hb)),fun y c e=>(split y c e).elim (fun q=>(zi b (hex b hb)).2.2.2.2.1 y c (L.sub y c q)) fun q=>aj1 (AS (aT b (hex b hb)) (aiX q))⟩,I.bs,zd I.ok.pB I.sz,fun b o e z=>?_,fun b z=>?_,I.stack,I.Nt⟩,
  rfl,I.bare,Un.kept kp,⟨_,iz,fun i y v h1 h2 h3=>?_⟩,fun y c e=>?_,I.aA.fresh (br _),fun y c e=>(split y c e).elim (fun q=>I.kL y c (L.sub y c q)) fun q=>I.aA.fresh (aiX q),fun p hp=>?_,I.aA.kept kp,?_⟩
 ·have zj:(cl.lookup y).isNone=true:=hy;rcases split y c e with q | q
  ·rw[q]at zj;cases zj
  ·exact aiX q
 ·rcases (zi b (hex b z)).2.2.2.1 with q | q
  ·exact I.ok.uV b o e q
  ·exact absurd (AS (xy (I.ok.bs b o e).1) q) (YI _)
 ·exact pA b (zi b (hex b z)).2.1 (zi b (hex b z)).2.2.1
 ·have pK:(own++fr.map fun j=>X.N.getD j "")[i]?=some y:=h1;have jq:(own.map (fun _=>none)++fr.map fun j=>(σ[j]?).join)[i]?=some (some v):=h2;by_cases hi:i<own.length
  ·rw[aju (by simpa using hi),ee]at jq;cases q:own[i]? with
   |none=>rw[q]at jq;cases jq
   |some z=>rw[q]at jq;cases jq
  ·rw[LH (by omega),ee]at pK;rw[LH (by simpa using hi),ee,aa]at jq;cases q:fr[i-own.length]? with
   |none=>rw[q]at pK;cases pK
   |some j =>
    rw[q]at pK jq;obtain⟨y',n1,n2,n3,n4,c',e'⟩:=L.frN j (mT q);have ey:y'=y:=by
     have this:X.N.getD j "" = y:=xw pK;rw[Zn n1]at this;exact this
    subst ey;have ev : σ[j]?=some (some v):=by
     have z:(σ[j]?).join=some v:=xw jq;cases q2 : σ[j]? with
     |none=>rw[q2]at z;cases z
     |some o=>rw[q2]at z;exact congrArg some z
    obtain⟨m,_,hl⟩:=I.loc;obtain⟨u,r,l⟩:=hl j y' v n1 ev n3;refine⟨u,r,.inr ⟨n2,?_⟩⟩;rcases l with⟨k,_⟩ | ⟨_,c,e,z⟩
    ·exact absurd k n4
    ·have:=L.sub y' c' e';rw[e]at this;cases this;obtain⟨o,ho,hd⟩:=z;exact⟨_,(Dk _ _ _ y' fun z=>by rw[L.cells y' z]at e';cases e').trans e',o,kp _ o ho,hd⟩
 ·rcases pJ y c e with q | q
  ·obtain⟨v,o,ho,hd⟩:=OM y c q;exact⟨v,o,kp c o ho,hd⟩
  ·exact⟨none,q⟩
 ·have hp':p ∈ X.pn++pins:=by
   have z:p ∈ (X.pn++pins)++[]:=hp;simpa using z
  obtain⟨e,n,ne,nf,d⟩:=I.pin p hp';exact⟨kp _ _ e,n,noL e,pA _ ne nf,d⟩
 ·show(own.map (fun _=>(none:Option V))++fr.map fun j=>(σ[j]?).join).length=(own++fr.map fun j=>X.N.getD j "").length;simp
theorem P7 {X:Cx}{elt tg iter:Expr}{ifs:List Expr}{sc:Scope}{cl:List (Str×Addr)}{own:List Str}{fr:List Nat}{pos:Pos}{wi:TI}{g:TG}{tt:TT}{te:TE}(L:iW X sc cl fr)(hc:X.calm=true)(hi:PI X tg iter wi)(hg:∀ C s H ex pn,PG (dm X own fr sc cl C s H ex pn) tg g)(ht:∀ C s H ex pn (pins:List (Addr×Obj)) (s1:Shared) (aN:St) (H1:Hp) (Q:Bool->Hp->Prop),Inv (dm X own fr sc cl C s H ex pn) pins aN H1 s1->tt aN H1 Q ->
   wpAny (model X.prog X.w) X.A (lN ifs (compEnvC sc (cellsFrom (C+1) sc.names cl) C X.env)) (TP (dm X own fr sc cl C s H ex pn) pins aN Q) cR s1)(he:∀ C s H ex pn,PE (dm X own fr sc cl C s H ex pn) elt te)(hs:∀ x,foldedSetIterable iter X.env x=pure x:=by intro _;rfl) :
  PE X (.ListComp elt [⟨tg,iter,ifs,0⟩] sc pos) (zh wi g tt te own fr):=by
 intro pins s σ H Q I h;rw[eval_ListComp];refine wpAny_comprehension_free (use:=none) rfl hs L.QL L.kind L.names (aD (hi pins s σ H _ I h) fun v s1 h1=>aD h1 fun zb s2 h2=>?_);obtain⟨it,fp,tn,J,H2,e,I2,T,bb,f2,h2⟩:=h2;subst e;refine abc ?_;have I3:Inv X pins σ (upd H2 s2.heap.objs.size (.lst [])) { s2 with heap:=s2.heap.push { cls:=.type "list",data:=.seq ([]:List Value).toArray } }:=I2.yP (t':=s2.toks) .nil (DO _);have n2:H2 s2.heap.objs.size=none:=I2.fresh;obtain⟨W,⟨m0,w0⟩,turn⟩:=h2 _ n2;have vH:∀ b ∈ fp,b<s2.heap.objs.size:=fun b hb=>by
  obtain⟨o,eo,_⟩:=T.obj 0 _ bb b hb;exact xy eo
 have d8:∀ b ∈ fp,jf X pins (upd H2 s2.heap.objs.size (.lst [])) b:=fun b hb=>⟨by rw[aQ (Co (vH b hb))];exact(f2 b hb).1,(f2 b hb).2⟩
 generalize gT:({ s2 with heap:=s2.heap.push { cls:=.type "list",data:=.seq ([]:List Value).toArray } }:Shared)=s3 at I3;have gE:tn 0 s3.heap:=by
  rw[<- gT];exact T.keep 0 _ _ bb fun b hb o eo=>Cc _ eo
 have pL:∀ b ∈ fp,b<s3.heap.objs.size:=fun b hb=>by
  obtain⟨o,eo,_⟩:=T.obj 0 _ gE b hb;exact xy eo
 generalize FQ:upd H2 s2.heap.objs.size (.lst [])=H3 at I3 d8 w0;generalize s2.heap.objs.size=acc at turn w0 FQ ⊢;refine Lh ?_;have iz:(pushCells (s3.heap.push { cls:=.type "dict",data:=.dict #[] }) sc.names).Ns s3.heap.objs.size fun _=>none:=(Heap.Ns.new s3.heap (.type "dict")).keeps (ajI _ _)
 have kp:∀ b o,s3.heap.get? b=some o->(pushCells (s3.heap.push { cls:=.type "dict",data:=.dict #[] }) sc.names).get? b=some o:=fun b o eo=>ajI _ _ b o (Cc _ eo)
 have pJ:∀ y c,(cellsFrom (s3.heap.objs.size+1) sc.names cl).lookup y=some c->cl.lookup y=some c\/(pushCells (s3.heap.push { cls:=.type "dict",data:=.dict #[] }) sc.names).IsCell c none:=fun y c e =>
  xD sc.names (s3.heap.push { cls:=.type "dict",data:=.dict #[] }) cl y c (by rw[akI];exact e)
 generalize hh4:pushCells (s3.heap.push { cls:=.type "dict",data:=.dict #[] }) sc.names=h4 at iz kp pJ;have I4:=lcInv (own:=own) (tk:=s3.toks) L I3 d8 pL iz kp pJ;have vJ:tn 0 h4:=T.keep 0 _ _ gE fun b hb o eo=>kp b o eo
 have stat:∀ {H':Hp},(∀ b ∈ fp,H' b=none)->∀ b ∈ fp,jf (dm X own fr sc cl s3.heap.objs.size s3 H3 fp (X.pn++pins)) [] H' b:=fun {H'} hn b hb =>
  ⟨hn b hb,Co (pL b hb),fun z=>(gr.mp (I3.uB b z)).elim (d8 b hb).2.1 (d8 b hb).2.2.1,.inl hb,fun y c e=>(t7 _ _ _ y c e).elim (fun q=>(d8 b hb).2.2.2.2.1 y c (L.sub y c q)) fun q=>aj1 (AS (pL b hb) (aiX q.1)),fun p hp=>(d8 b hb).2.2.2.2.2 p (by
   have z:p ∈ (X.pn++pins)++[]:=hp;simpa using z)⟩
 have loop:codeAny (model X.prog X.w) X.A (.compLoop (.ListComp elt [⟨tg,iter,ifs,0⟩] sc pos) 0 (.ref it) (.ref acc) (compEnvC sc (cellsFrom (s3.heap.objs.size+1) sc.names cl) s3.heap.objs.size X.env))
   (compPost (model X.prog X.w) X.A X.xe none (EP X pins σ Q) (.ref acc) s3.heap.objs.size) { s3 with heap:=h4,toks:=s3.toks }:=by
  refine OL (fun n s'=>∃ i ys aN H1,Inv (dm X own fr sc cl s3.heap.objs.size s3 H3 fp (X.pn++pins)) [] aN H1 s'/\tn i s'.heap/\(∀ b ∈ fp,H1 b=none)/\W i n ys aN H1) ?_ m0 ⟨0,[],_,H3,I4,vJ,fun b hb=>(d8 b hb).1,w0⟩;rintro n s5 ⟨i,ys,mH,H5,I5,mF,pG,w5⟩;obtain⟨fe,hlen,hh⟩:=turn i n ys mH H5 w5;rcases hh with⟨stop,qn⟩ | ⟨go,N,hN,step⟩
  ·refine aD (T.done (dm X own fr sc cl s3.heap.objs.size s3 H3 fp (X.pn++pins)) rfl rfl rfl hc i [] s5 mH H5 cR I5 (stat pG) mF stop) fun r s6 ⟨hr,I6⟩=>?_
   subst hr;obtain⟨m6,FR,_⟩:=id I6.loc;refine⟨m6,FR,fun h7 mI=>⟨.ref acc,H5,?_,rfl,qn⟩⟩;have old:∀ b o,s3.heap.get? b=some o->b ≠ s3.heap.objs.size:=fun b o eo=>Co (xy eo)
   have u6:Un (eA X.stack) fp H3 H5 s3.heap s6.heap:=I6.base;have u7:Un (eA X.stack) fp H3 H5 s3.heap h7 :=
    ⟨fun b o eo nn hb hx=>(mI.2 b (old b o eo)).trans (u6.keep b o eo nn hb hx),fun b o eo nn hb hx=>by
     obtain⟨sl,q⟩:=u6.slot b o eo nn hb hx;exact⟨sl,(mI.2 b (old b o eo)).trans q⟩,u6.free,fun b o eo hx=>by
     obtain⟨o',q⟩:=u6.there b o eo hx;exact⟨o',(mI.2 b (old b o eo)).trans q⟩,u6.kO,u6.jZ,u6.kP⟩
   have fC:H5 s3.heap.objs.size=none:=I6.free;have E5:cA X.prog X.w H5 h7:=fun b ob eb=>by
    refine(I6.aA b ob eb).lX (fun c w' jJ q=>(mI.2 c ?_).trans q) (fun _ q=>q) fun _ _ q=>q
    rintro rfl;rcases jJ with z | z
    ·rw[<- z,fC]at eb;cases eb
    ·rw[fC]at z;cases z
   exact I3.PQ (s':={ s6 with heap:=h7 }) I6.os u7 E5 I6.bare fun b hb=>⟨(d8 b hb).2.2.2.1,(d8 b hb).2.1,(d8 b hb).2.2.2.2.1,(d8 b hb).2.2.2.2.2⟩
  ·refine aD (T.item (dm X own fr sc cl s3.heap.objs.size s3 H3 fp (X.pn++pins)) rfl rfl rfl hc i [] s5 mH H5 cR I5 (stat pG) mF go) fun r s6 ⟨u,hr,h6⟩=>?_
   subst hr;refine aD h6 fun _ s7 ⟨x,H7,I7,r7,y7,pM,FT⟩=>?_
   have FU:=I7.pinned (stat FT) (T.obj _ _ pM);refine aD (hg _ _ _ _ _ _ s7 mH H7 x u _ FU r7 (step x H7 y7)) fun _ s8 ⟨mJ,H8,I8,q8⟩=>?_
   have again:∀ {zs:List V} {kg:St} {H9:Hp} {s9:Shared},Inv (dm X own fr sc cl s3.heap.objs.size s3 H3 fp (X.pn++pins)) ([]++r9 fp s7.heap) kg H9 s9->N zs kg H9 ->
     ∃ m,m<n/\∃ i ys aN H1,Inv (dm X own fr sc cl s3.heap.objs.size s3 H3 fp (X.pn++pins)) [] aN H1 s9/\tn i s9.heap/\(∀ b ∈ fp,H1 b=none)/\W i m ys aN H1:=fun {zs kg H9 s9} I9 n9=>by
    obtain⟨m',hm,w9⟩:=hN zs kg H9 n9;refine⟨m',hm,i+1,zs,kg,H9,I9.t9,T.keep _ _ _ pM fun b hb o e=>(I9.pin (b,o) (ij _ (ij _ (qV hb e)))).1,fun b hb=>?_,w9⟩;obtain⟨o,e,d⟩:=T.obj _ _ pM b hb;exact(I9.pin (b,o) (ij _ (ij _ (qV hb e)))).2.1
   refine aD (ht _ _ _ _ _ _ s8 mJ H8 _ I8 q8) fun ok s9 ⟨H9,I9,q9⟩=>?_
   cases ok with
   |false=>exact again I9 (by simpa using q9)
   |true =>
    refine aD (he _ _ _ _ _ _ s9 mJ H9 _ I9 q9) fun z FV ⟨y,FW,FX,FY,pN,FZ⟩=>?_
    refine aD (t6 _ FV mJ FW (.ref acc) [y] (.ref acc) [z] (fun _ H'=>N (ys++[y]) mJ H') FX rfl (.cons FY .nil) ⟨acc,ys,y,rfl,rfl,pN,hlen,FZ⟩) fun _ s11 ⟨_,H11,F0,_,Ge⟩=>again F0 Ge
 rw[<- gT]at loop ⊢;exact codeAny_compStart_list loop (FP (T.self _ 0 _ _ _ vJ (by rw[gT];rw[gT]at loop;exact loop)))
theorem Zo {n:Int}{k:Nat}(h:n.natAbs<2 ^ k)(hk : 0<k):n.natAbs.log2<k:=by
 by_cases z:n.natAbs=0
 ·rw[z];show Nat.log2 0<k;rw[Nat.log2_zero];exact hk
 ·exact(Nat.log2_lt z).mpr h
section
variable {X:Cx}
def P8 (i j:Int):Prop:=i.natAbs<2 ^ 8000/\j.natAbs<2 ^ 8000
theorem Zq:cX X (binaryOp .Mult) (rI P8 fun i j=>.int (i*j)):=FH fun _ _ _ _ _ _ _ hc q =>
 mul_int q (IntMulOk.of_le (intBits_le_iff.mpr hc.1) (intBits_le_iff.mpr hc.2) (by decide))
def D9 (_ j:Int):Prop:=0<j/\j.natAbs<2 ^ 8000
theorem Yg:cX X (binaryOp .FloorDiv) (rI D9 fun i j=>.int (i / j)):=FH fun i j _ _ _ _ _ hc q=>by
 have h1:(0:Int)<j:=hc.1;refine floordiv_int (by omega) (by rw[Int.fdiv_eq_ediv_of_nonneg i (by omega)];exact q) (.inl (PyProof.noPylong_of_log2 ?_));exact Nat.lt_trans (Zo hc.2 (by decide)) (by decide)
theorem W0 {hi c:Int}(h0 : 0<=hi)(h1:hi<2 ^ 30)(c0 : 0<c)(c1:c<2 ^ 30):Builtin.Range.small 0 hi c=true:=by
 unfold Builtin.Range.small;rw[rangeSize_pos (by omega) h0];have a0 : 0<=(hi+c-1) / c:=ajf (by omega) (by omega);have a1:(hi+c-1) / c*c<=hi+c-1:=Int.ediv_mul_le _ (by omega);have a2:(hi+c-1) / c<=hi+c-1:=aja _ (by omega);have a3:(0:Int)<=(hi+c-1) / c*c:=Nd a0 (by omega);have cc:c > 0:=c0;simp only[Builtin.Range.rangeFitsLong,BS,ak0,akO,OR,cc,if_true];generalize (hi+c-1) / c*c=p at *;generalize (hi+c-1) / c=q at *;omega
theorem Le:∀ {ns:LI} {its:List Value},Vals (ns.map V.int) its->∃ xs:List (Int×Tok),its=xs.map (fun p=>Value.int p.1 p.2)/\xs.map (·.1)=ns
 |[],_,.nil=>⟨[],rfl,rfl⟩
 |n::ns,_,.cons r t=>by
  obtain⟨tk,rfl⟩:=r;obtain⟨xs,rfl,rfl⟩:=Le t;exact⟨(n,tk)::xs,rfl,rfl⟩
def QM (K:Frag):List V->Hp->VK->Prop:=fun xs H Q=>∃ (p:Addr) (ns:LI),xs=[.ref p]/\aL K H p (ns.map V.int)/\Q (.int ns.sum) H
theorem Yh (hc:X.calm=true):eQ X (.builtin "sum") (QM X.K):=by
 intro pins s σ H xs us Q I r h;obtain⟨p,ns,rfl,hq,q⟩:=h;cases r with
 |cons r1 rr =>
  cases rr
  cases r1
  obtain⟨its,rv,pl,hz⟩:=I.list hq;obtain⟨zs,rfl,rfl⟩:=Le rv;refine PySem.sum_intListG (xs:=zs.toArray) (I.ok.hd hc) (by simpa [PySem.intItems]using pl.isList) fun h' tk t' hk=>⟨.int _,H,I.kept (t':=tk) hk,⟨t',rfl⟩,?_⟩
  rw[PySem.preSum_eq,Mc (by simp)];exact q
end
inductive Dv where
 |fl (v:V)
 |lst (ds:List Dv)
 |tup (ds:List Dv)
mutual
def cJ:Dv->Dv->Bool
 | .fl x,.fl y=>dw x y
 | .lst a,.lst b=>fR a b
 | .tup a,.tup b=>fR a b
 |_,_=>false
def fR:List Dv->List Dv->Bool
 |[],[] => true
 |x::r,y::q=>cJ x y&&fR r q
 |_,_=>false
end
mutual
def fj:Dv->Nat
 | .fl _=>0
 | .lst a=>dX a+1
 | .tup a=>dX a+1
def dX:List Dv->Nat
 |[] => 0
 |x::r=>max (fj x) (dX r)
end
mutual
def Hv (K:Frag)(H:Hp):Dv->V->Prop
 | .fl v,x=>x=v/\fE v=true
 | .lst ds,x=>∃ a xs,x=.ref a/\aL K H a xs/\bC K H ds xs
 | .tup ds,x=>∃ a xs,x=.ref a/\cW K H a xs/\bC K H ds xs
def bC (K:Frag)(H:Hp):List Dv->List V->Prop
 |[],xs=>xs=[]
 |d::ds,xs=>∃ x r,xs=x::r/\Hv K H d x/\bC K H ds r
end
theorem MB {v:V}(h:fE v=true):dw v v=true:=by
 cases v<;>first | rfl | (simp[dw];done) | (exact absurd h (by decide)) | (cases h)
section
variable {X:Cx}{pins:List (Addr×Obj)}{σ:St}{H:Hp}{s:Shared}
theorem MC (I:Inv X pins σ H s){a:Addr}{xs ys:List V}(h1:aL X.K H a xs)(h2:cW X.K H a ys):False:=by
 obtain⟨i1,_,p1,_⟩:=I.list h1;obtain⟨i2,_,p2,_⟩:=I.tuple h2;exact SeqAt.ne_of_list_tuple p1.isList p2 rfl
mutual
theorem xE (I:Inv X pins σ H s):∀ (d e:Dv) (x:V),Hv X.K H d x->Hv X.K H e x->cJ d e=true
 | .fl v,.fl w,x,h1,h2=>by
  obtain⟨rfl,f⟩:=h1;obtain⟨rfl,_⟩:=h2;exact MB f
 | .fl v,.lst es,x,h1,h2=>by
  obtain⟨rfl,f⟩:=h1;obtain⟨a,xs,rfl,_⟩:=h2;cases f
 | .fl v,.tup es,x,h1,h2=>by
  obtain⟨rfl,f⟩:=h1;obtain⟨a,xs,rfl,_⟩:=h2;cases f
 | .lst ds,.fl v,x,h2,h1=>by
  obtain⟨rfl,f⟩:=h1;obtain⟨a,xs,rfl,_⟩:=h2;cases f
 | .tup ds,.fl v,x,h2,h1=>by
  obtain⟨rfl,f⟩:=h1;obtain⟨a,xs,rfl,_⟩:=h2;cases f
 | .lst ds,.lst es,x,h1,h2=>by
  obtain⟨a,xs,rfl,q,r⟩:=h1;obtain⟨b,ys,e,q',r'⟩:=h2;cases e;have:=I.My q q';subst this;exact B7 I ds es xs r r'
 | .tup ds,.tup es,x,h1,h2=>by
  obtain⟨a,xs,rfl,q,r⟩:=h1;obtain⟨b,ys,e,q',r'⟩:=h2;cases e;have:=I.Xm q q';subst this;exact B7 I ds es xs r r'
 | .lst ds,.tup es,x,h1,h2=>by
  obtain⟨a,xs,rfl,q,r⟩:=h1;obtain⟨b,ys,e,q',r'⟩:=h2;cases e;exact(MC I q q').elim
 | .tup ds,.lst es,x,h1,h2=>by
  obtain⟨a,xs,rfl,q,r⟩:=h1;obtain⟨b,ys,e,q',r'⟩:=h2;cases e;exact(MC I q' q).elim
theorem B7 (I:Inv X pins σ H s):∀ (ds es:List Dv) (xs:List V),bC X.K H ds xs->bC X.K H es xs->fR ds es=true
 |[],[],_,_,_=>rfl
 |[],e::es,xs,h1,h2=>by
  obtain rfl:xs=[]:=h1;obtain⟨x,r,z,_⟩:=h2;cases z
 |d::ds,[],xs,h1,h2=>by
  obtain rfl:xs=[]:=h2;obtain⟨x,r,z,_⟩:=h1;cases z
 |d::ds,e::es,xs,h1,h2=>by
  obtain⟨x,r,rfl,a,b⟩:=h1;obtain⟨x',r',z,a',b'⟩:=h2;cases z;show(cJ d e&&fR ds es)=true;rw[xE I d e x a a',B7 I ds es r b b']
  rfl
end
theorem bC.length {K:Frag}{H:Hp}:∀ {ds:List Dv} {xs:List V},bC K H ds xs->ds.length=xs.length
 |[],xs,h=>by
  obtain rfl:xs=[]:=h
  rfl
 |d::ds,xs,h=>by
  obtain⟨x,r,rfl,_,b⟩:=h;rw[AN,AN,bC.length b]
theorem oq:∀ {ds es:List Dv},ds.length ≠ es.length->fR ds es=false
 |[],[],h=>absurd rfl h
 |[],_::_,_=>rfl
 |_::_,[],_=>rfl
 |d::ds,e::es,h=>by
  show(cJ d e&&fR ds es)=false;rw[oq (ds:=ds) (es:=es) (by simpa using h),ajv]
def jC (ds es:List Dv)(j:Nat):Bool:=match ds[j]?,es[j]? with
 |some d,some e=>cJ d e
 |_,_=>false
theorem oj:∀ {ds es:List Dv},ds.length=es.length->(List.range ds.length).all (jC ds es)=fR ds es
 |[],[],_=>rfl
 |[],_::_,h=>by cases h
 |_::_,[],h=>by cases h
 |d::ds,e::es,h=>by
  rw[AN,ajT,ajn,ak1];show(cJ d e&&(List.range ds.length).all (jC (d::ds) (e::es) ∘ Nat.succ))=(cJ d e&&fR ds es)
  congr 1
  exact oj (ds:=ds) (es:=es) (by simpa using h)
mutual
theorem OO (I:Inv X pins σ H s):∀ (d e:Dv) (A:Around) (x y:V) (u v:Value),A.units+fj d<cLine->Hv X.K H d x->Hv X.K H e y->RelV x u->RelV y v->SeqAt.EqAt A s u v (cJ d e)
 | .fl a,.fl b,A,x,y,u,v,hu,h1,h2,rx,ry=>by
  obtain⟨rfl,f1⟩:=h1;obtain⟨rfl,f2⟩:=h2;exact OI rx ry f1 f2
 | .fl a,.lst es,A,x,y,u,v,hu,h1,h2,rx,ry=>by
  obtain⟨rfl,f1⟩:=h1;obtain⟨b,ys,rfl,q,r⟩:=h2;cases ry;obtain⟨its,_,pl,_⟩:=I.list q;have bh:A.units<cLine:=hu;cases x with
  |aH=>cases rx;exact SeqAt.EqAt.none_list pl.isList bh
  |bl c=>cases rx;exact SeqAt.EqAt.bool_list c pl.isList bh
  |int c=>obtain⟨t,rfl⟩:=rx;exact SeqAt.EqAt.int_list c t pl.isList bh
  |str c=>obtain⟨t,rfl⟩:=rx;exact SeqAt.EqAt.str_list c t pl.isList bh
  |_=>cases f1
 | .fl a,.tup es,A,x,y,u,v,hu,h1,h2,rx,ry=>by
  obtain⟨rfl,f1⟩:=h1;obtain⟨b,ys,rfl,q,r⟩:=h2;cases ry;obtain⟨its,_,pl,_⟩:=I.tuple q;have bh:A.units<cLine:=hu;cases x with
  |aH=>cases rx;exact SeqAt.EqAt.none_tuple pl bh
  |bl c=>cases rx;exact SeqAt.EqAt.bool_tuple c pl bh
  |int c=>obtain⟨t,rfl⟩:=rx;exact SeqAt.EqAt.int_tuple c t pl bh
  |str c=>obtain⟨t,rfl⟩:=rx;exact SeqAt.EqAt.str_tuple c t pl bh
  |_=>cases f1
 | .lst ds,.fl b,A,x,y,u,v,hu,h1,h2,rx,ry=>by
  obtain⟨rfl,f2⟩:=h2;obtain⟨a,xs,rfl,q,r⟩:=h1;cases rx;obtain⟨its,_,pl,_⟩:=I.list q;have bh:A.units<cLine:=EU (ajb _ _) hu;cases y with
  |aH=>cases ry;exact SeqAt.EqAt.list_none pl.isList bh
  |bl c=>cases ry;exact SeqAt.EqAt.list_bool c pl.isList bh
  |int c=>obtain⟨t,rfl⟩:=ry;exact SeqAt.EqAt.list_int c t pl.isList bh
  |str c=>obtain⟨t,rfl⟩:=ry;exact SeqAt.EqAt.list_str c t pl.isList bh
  |_=>cases f2
 | .tup ds,.fl b,A,x,y,u,v,hu,h1,h2,rx,ry=>by
  obtain⟨rfl,f2⟩:=h2;obtain⟨a,xs,rfl,q,r⟩:=h1;cases rx;obtain⟨its,_,pl,_⟩:=I.tuple q;have bh:A.units<cLine:=EU (ajb _ _) hu;cases y with
  |aH=>cases ry;exact SeqAt.EqAt.tuple_none pl bh
  |bl c=>cases ry;exact SeqAt.EqAt.tuple_bool c pl bh
  |int c=>obtain⟨t,rfl⟩:=ry;exact SeqAt.EqAt.tuple_int c t pl bh
  |str c=>obtain⟨t,rfl⟩:=ry;exact SeqAt.EqAt.tuple_str c t pl bh
  |_=>cases f2
 | .lst ds,.tup es,A,x,y,u,v,hu,h1,h2,rx,ry=>by
  obtain⟨a,xs,rfl,q,r⟩:=h1;obtain⟨b,ys,rfl,q',r'⟩:=h2;cases rx;cases ry;obtain⟨_,_,p1,_⟩:=I.list q;obtain⟨_,_,p2,_⟩:=I.tuple q';exact SeqAt.EqAt.list_tuple p1.isList p2 (EU (ajb _ _) hu)
 | .tup ds,.lst es,A,x,y,u,v,hu,h1,h2,rx,ry=>by
  obtain⟨a,xs,rfl,q,r⟩:=h1;obtain⟨b,ys,rfl,q',r'⟩:=h2;cases rx;cases ry;obtain⟨_,_,p1,_⟩:=I.tuple q;obtain⟨_,_,p2,_⟩:=I.list q';exact SeqAt.EqAt.tuple_list p1 p2.isList (EU (ajb _ _) hu)
 | .lst ds,.lst es,A,x,y,u,v,hu,h1,h2,rx,ry=>by
  obtain⟨a,xs,rfl,q,r⟩:=id h1;obtain⟨b,ys,rfl,q',r'⟩:=id h2;cases rx;cases ry;by_cases nQ:a=b
  ·subst nQ;rw[xE I _ _ _ h1 h2];exact SeqAt.EqAt.same _
  obtain⟨i1,v1,p1,_⟩:=I.list q;obtain⟨i2,v2,p2,_⟩:=I.list q';have bh:A.units<cLine:=EU (ajb _ _) hu;have l1:=r.length;have l2:=r'.length;have m1:=v1.length;have m2:=v2.length;refine .of_refs nQ ?_;show SeqAt.RcAt A s (.ref a) (.ref b) (fR ds es);by_cases hl:ds.length=es.length
  ·have z:=SeqAt.RcAt.lists (e:=jC ds es) p1.isList p2.isList (by simp;omega) bh (fun j g1 g2=>oB I ds es A.in1 xs ys i1 i2 (by show A.units+1+dX ds<cLine;have:A.units+(dX ds+1)<cLine:=hu;omega) r r' v1 v2 j (by simpa using g1) (by simpa using g2));rw[uu,<- m1,<- l1,oj hl]at z;exact z
  ·rw[oq hl];exact .lists_lengths p1.isList p2.isList (by simp;omega) bh
 | .tup ds,.tup es,A,x,y,u,v,hu,h1,h2,rx,ry=>by
  obtain⟨a,xs,rfl,q,r⟩:=id h1;obtain⟨b,ys,rfl,q',r'⟩:=id h2;cases rx;cases ry;by_cases nQ:a=b
  ·subst nQ;rw[xE I _ _ _ h1 h2];exact SeqAt.EqAt.same _
  obtain⟨i1,v1,p1,_⟩:=I.tuple q;obtain⟨i2,v2,p2,_⟩:=I.tuple q';have bh:A.units<cLine:=EU (ajb _ _) hu;have l1:=r.length;have l2:=r'.length;have m1:=v1.length;have m2:=v2.length;refine .of_refs nQ ?_;show SeqAt.RcAt A s (.ref a) (.ref b) (fR ds es);have z:=SeqAt.RcAt.tuples (e:=jC ds es) p1 p2 bh (fun j g1 g2=>oB I ds es A.in1 xs ys i1 i2 (by show A.units+1+dX ds<cLine;have:A.units+(dX ds+1)<cLine:=hu;omega) r r' v1 v2 j (by simpa using g1) (by simpa using g2));have zz:((List.range (min i1.toArray.size i2.toArray.size)).all (jC ds es)&&i1.toArray.size==i2.toArray.size)=fR ds es:=by
   rw[uu,uu,<- m1,<- m2,<- l1,<- l2];by_cases hl:ds.length=es.length
   ·rw[hl,ajE,<- hl,oj hl];simp[hl]
   ·rw[oq hl,Pc.mpr hl,ajv]
  rw[zz]at z;exact z
theorem oB (I:Inv X pins σ H s):∀ (ds es:List Dv) (A:Around) (xs ys:List V) (us vs:List Value),A.units+dX ds<cLine->bC X.K H ds xs->bC X.K H es ys->Vals xs us->Vals ys vs ->
  ∀ (j:Nat) (h1:j<us.length) (h2:j<vs.length),SeqAt.EqAt A s us[j] vs[j] (jC ds es j)
 |[],es,A,xs,ys,us,vs,hu,h1,h2,r1,r2,j,g1,g2=>by
  obtain rfl:xs=[]:=h1;cases r1;exact absurd g1 (ajg _)
 |d::ds,[],A,xs,ys,us,vs,hu,h1,h2,r1,r2,j,g1,g2=>by
  obtain rfl:ys=[]:=h2;cases r2;exact absurd g2 (ajg _)
 |d::ds,e::es,A,xs,ys,us,vs,hu,h1,h2,r1,r2,j,g1,g2=>by
  obtain⟨x,r,rfl,a,b⟩:=h1;obtain⟨y,q,rfl,a',b'⟩:=h2;cases r1 with
  |cons c1 t1=>cases r2 with
   |cons c2 t2 =>
    have hm:dX (d::ds)=max (fj d) (dX ds):=rfl;rw[hm]at hu;cases j with
    |zero=>exact OO I d e A x y _ _ (EU (NH (Nat.le_max_left _ _) _) hu) a a' c1 c2
    |succ j=>exact oB I ds es A r q _ _ (EU (NH (Nat.le_max_right _ _) _) hu) b b' t1 t2 j (by simpa using g1) (by simpa using g2)
end
def uZ (K:Frag)(neg:Bool):R2:=fun x y H Q=>∃ d e,((∃ ds es,d=.lst ds/\e=.lst es)\/∃ ds es,d=.tup ds/\e=.tup es)/\Hv K H d x/\Hv K H e y/\fj d<=50/\Q (.bl (if neg then !cJ d e else cJ d e)) H
theorem OQ (hr:X.A.units+64<cLine):cX X (compareOp .Eq) (uZ X.K false):=by
 intro pins s σ H x y v u Q I rx ry h;obtain⟨d,e,hk,h1,h2,hd,q⟩:=h;have bh:X.A.units<cLine:=by omega
 rcases hk with⟨ds,es,rfl,rfl⟩ | ⟨ds,es,rfl,rfl⟩
 ·obtain⟨a,xs,rfl,q1,r⟩:=h1;obtain⟨b,ys,rfl,q2,r'⟩:=h2;cases rx;cases ry;obtain⟨i1,v1,p1,_⟩:=I.list q1;obtain⟨i2,v2,p2,_⟩:=I.list q2;have l1:=r.length;have l2:=r'.length;have m1:=v1.length;have m2:=v2.length;have nK:dX ds+1<=50:=hd;by_cases hl:ds.length=es.length
  ·refine SeqAt.eq_listAt (e:=jC ds es) p1.isList p2.isList (by simp;omega) bh (fun j g1 g2=>oB I ds es X.A.in1 xs ys i1 i2 (by show X.A.units+1+dX ds<cLine;omega) r r' v1 v2 j (by simpa using g1) (by simpa using g2)) ?_;rw[uu,<- m1,<- l1,oj hl];exact⟨.bl _,H,I,rfl,q⟩
  ·refine SeqAt.eq_list_lengthsAt p1.isList p2.isList (by simp;omega) bh ⟨.bl _,H,I,rfl,?_⟩;have z:cJ (.lst ds) (.lst es)=false:=oq hl;rw[z]at q;exact q
 ·obtain⟨a,xs,rfl,q1,r⟩:=h1;obtain⟨b,ys,rfl,q2,r'⟩:=h2;cases rx;cases ry;obtain⟨i1,v1,p1,_⟩:=I.tuple q1;obtain⟨i2,v2,p2,_⟩:=I.tuple q2;have l1:=r.length;have l2:=r'.length;have m1:=v1.length;have m2:=v2.length;have nK:dX ds+1<=50:=hd;refine SeqAt.eq_tupleAt (e:=jC ds es) p1 p2 bh (fun j g1 g2=>oB I ds es X.A.in1 xs ys i1 i2 (by show X.A.units+1+dX ds<cLine;omega) r r' v1 v2 j (by simpa using g1) (by simpa using g2)) ⟨.bl _,H,I,rfl,?_⟩;have zz:((List.range (min i1.toArray.size i2.toArray.size)).all (jC ds es)&&i1.toArray.size==i2.toArray.size)=fR ds es:=by
   rw[uu,uu,<- m1,<- m2,<- l1,<- l2];by_cases hl:ds.length=es.length
   ·rw[hl,ajE,<- hl,oj hl];simp[hl]
   ·rw[oq hl,Pc.mpr hl,ajv]
  rw[zz];exact q
theorem aaA (hr:X.A.units+64<cLine):cX X (compareOp .NotEq) (uZ X.K true):=by
 intro pins s σ H x y v u Q I rx ry h;obtain⟨d,e,hk,h1,h2,hd,q⟩:=h;have bh:X.A.units<cLine:=by omega
 rcases hk with⟨ds,es,rfl,rfl⟩ | ⟨ds,es,rfl,rfl⟩
 ·obtain⟨a,xs,rfl,q1,r⟩:=h1;obtain⟨b,ys,rfl,q2,r'⟩:=h2;cases rx;cases ry;obtain⟨i1,v1,p1,_⟩:=I.list q1;obtain⟨i2,v2,p2,_⟩:=I.list q2;have l1:=r.length;have l2:=r'.length;have m1:=v1.length;have m2:=v2.length;have nK:dX ds+1<=50:=hd;by_cases hl:ds.length=es.length
  ·refine SeqAt.RcNeAt.lists (e:=jC ds es) p1.isList p2.isList (by simp;omega) bh (fun j g1 g2=>oB I ds es X.A.in1 xs ys i1 i2 (by show X.A.units+1+dX ds<cLine;omega) r r' v1 v2 j (by simpa using g1) (by simpa using g2)) _ _ _ _ ?_;rw[uu,<- m1,<- l1,oj hl];exact⟨.bl _,H,I,rfl,q⟩
  ·refine SeqAt.RcNeAt.lists_lengths p1.isList p2.isList (by simp;omega) bh _ _ _ _ ⟨.bl _,H,I,rfl,?_⟩;have z:cJ (.lst ds) (.lst es)=false:=oq hl;rw[z]at q;exact q
 ·obtain⟨a,xs,rfl,q1,r⟩:=h1;obtain⟨b,ys,rfl,q2,r'⟩:=h2;cases rx;cases ry;obtain⟨i1,v1,p1,_⟩:=I.tuple q1;obtain⟨i2,v2,p2,_⟩:=I.tuple q2;have l1:=r.length;have l2:=r'.length;have m1:=v1.length;have m2:=v2.length;have nK:dX ds+1<=50:=hd;refine SeqAt.RcNeAt.tuples (e:=jC ds es) p1 p2 bh (fun j g1 g2=>oB I ds es X.A.in1 xs ys i1 i2 (by show X.A.units+1+dX ds<cLine;omega) r r' v1 v2 j (by simpa using g1) (by simpa using g2)) _ _ _ _ ⟨.bl _,H,I,rfl,?_⟩;have zz:((List.range (min i1.toArray.size i2.toArray.size)).all (jC ds es)&&i1.toArray.size==i2.toArray.size)=fR ds es:=by
   rw[uu,uu,<- m1,<- m2,<- l1,<- l2];by_cases hl:ds.length=es.length
   ·rw[hl,ajE,<- hl,oj hl];simp[hl]
   ·rw[oq hl,Pc.mpr hl,ajv]
  rw[zz];exact q
end
end L2
namespace L2
open PySem PySem.Spec PyProof.Rows
structure sT (K:Frag) (x qual:Str) (st:Stmt) (dV:Value) (f:Addr) (fd:FuncData):Prop where
 ex:∃ (oc:Value) (od:Option Addr) (kV doc pm:Value) (an:Option Addr) (bg ct:Value) (iP:Array (Option Value)),
  fd=fnOf x qual (aS st) (aM st) (aq st) dV kV doc pm an bg ct/\K.lookup f=some ⟨oc,od,.func fd,iP⟩/\codeIn K bg qual=true
 kp:keepIn K (.ref f)=true
structure Kn (P:Program) (w:World) (K:Frag) (mg:Str->Option Value) (base:Heap) (CX:iO) (k:Nat) (x:Str) (f:Addr) (fd:FuncData) (ps:List Str) (sp:Sp):Prop where
 ok:aJ P w K mg base CX k f fd ps sp
 Sx:mg x=some (.ref f)
 kp:keepIn K (.ref f)=true
 bd:Binds K fd ps []
section
variable {P:Program}{w:World}{K:Frag}{mg:Str->Option Value}{base:Heap}
theorem sT.ok {x qual:Str}{st:Stmt}{dV:Value}{f:Addr}{fd:FuncData}{N ps:List Str}{k:Nat}{sp:Sp}(F:sT K x qual st dV f fd)(S:aZ N ps (aq st))(len:∀ vs H Q E,sp vs H Q E->vs.length=ps.length)(uM:∀ (bg:Value) (A:Around) (outer:List Env) (s:Shared) (H:Hp) (vs:List V) (Q:VK) (E:XK),eh k (A.deeper (envOfC qual (aq st) s.heap.objs.size f bg))->sp vs H Q E ->
   ∃ t,fU (jg ak P w K mg base N qual (aq st) f bg A outer s H E).mE (aM st) t/\t { nx:=fun _ H'=>Q .aH H',rt:=Q } (start N vs) H):aJ P w K mg base ak (k+1) f fd ps sp:=by
 obtain⟨oc,od,kV,doc,pm,an,bg,ct,iP,rfl,lk,gC⟩:=F.ex;refine P5 lk gC S len fun A outer s H vs Q E hr kX=>?_
 obtain⟨t,h,q⟩:=uM bg A outer s H vs Q E hr kX;exact⟨t,h.mE,q⟩
theorem Zr {x qual:Str}{st:Stmt}{dV:Value}{f:Addr}{oc:Value}{od an:Option Addr}{iP:Array (Option Value)}{kV doc pm bg ct:Value}(l:K.lookup f=some ⟨oc,od,.func (fnOf x qual (aS st) (aM st) (aq st) dV kV doc pm an bg ct),iP⟩)(c:codeIn K bg qual=true)(k:keepIn K (.ref f)=true):sT K x qual st dV f (fnOf x qual (aS st) (aM st) (aq st) dV kV doc pm an bg ct):=⟨⟨oc,od,kV,doc,pm,an,bg,ct,iP,rfl,l,c⟩,k⟩
end
section
variable {X:Cx}{CX:iO}{k:Nat}{f:Addr}{fd:FuncData}{ps:List Str}{sp:Sp}{E:XK}{x:Str}{p pos:Pos}{e:Expr}{es:List Expr}{t:TA}
theorem sI (F:Kn X.prog X.w X.K X.mg X.base ak k x f fd ps sp)(hr:eh k X.A)(hg:Gl X x)(ha:PA X (e::es) t)(iw:(x==("__debug__" : Str))=false:=by decide)(he:starEach (e::es) X.env=(false,eval e X.env)::starEach es X.env:=by rfl)(gS:(backTo pos (starEach es X.env)).any (·.1)=false:=by rfl) :
  PE X (.Call (.Name x p) (e::es) [] pos) (sD sp [] E0 t):=NA F.ok hr hg F.Sx F.kp F.bd .nil P6 ha iw he gS
end
section
variable {K:Frag}{g:TG}{tb:TS}{D:Ends}{σ:St}{H:Hp}
theorem Xz {tl:TE}{a:Addr}{xs:List V}(hl:tl σ H (fun x H1=>x=.ref a/\H1=H))(hm:∀ Q:VK,Q (.ref a) H->tl σ H Q)(hx:aL K H a xs)(Pv:Nat->St->Hp->Prop)(h0:Pv 0 σ H)(hk:∀ i σ H,i<=xs.length->Pv i σ H->aL K H a xs)(hs:∀ i x σ H,xs[i]?=some x->Pv i σ H->g x σ H fun bE H2=>tb { D with nx:=Pv (i+1),ct:=Pv (i+1),bk:=D.nx } bE H2)(hd:∀ σ H,Pv xs.length σ H->D.nx σ H):sR (sC K tl) g tb D σ H :=
 hm _ ⟨a,rfl,⟨xs,hx⟩,B5 Pv h0 hk hs hd⟩
theorem L4 {j:Nat}{a:Addr}{xs:List V}(hj : σ[j]?=some (some (.ref a)))(hx:aL K H a xs)(Pv:Nat->St->Hp->Prop)(h0:Pv 0 σ H)(hk:∀ i σ H,i<=xs.length->Pv i σ H->aL K H a xs)(hs:∀ i x σ H,xs[i]?=some x->Pv i σ H->g x σ H fun bE H2=>tb { D with nx:=Pv (i+1),ct:=Pv (i+1),bk:=D.nx } bE H2)(hd:∀ σ H,Pv xs.length σ H->D.nx σ H):sR (sC K (bU j)) g tb D σ H :=
 ⟨_,hj,a,rfl,⟨xs,hx⟩,B5 Pv h0 hk hs hd⟩
end
def P9 (K:Frag):R2:=fun x y H Q=>∃ l b xs zs,x=.ref l/\y=.ref b/\aL K H l xs/\aL K H b zs/\xs.length+zs.length<=sizeLine/\∀ p,H p=none->Q (.ref p) (upd H p (.lst (xs++zs)))
section
variable {Y:Cx}{c:Expr}{tt:TT}
theorem Qa (pins:List (Addr×Obj))(s1:Shared)(aN:St)(H1:Hp)(Q:Bool->Hp->Prop)(I:Inv Y pins aN H1 s1)(h:Q true H1):wpAny (model Y.prog Y.w) Y.A (lN [] Y.env) (TP Y pins aN Q) cR s1 :=
 xp ⟨H1,I,h⟩
theorem abW (ht:PT Y c tt)(hx:Y.xe=cR)(pins:List (Addr×Obj))(s1:Shared)(aN:St)(H1:Hp)(Q:Bool->Hp->Prop)(I:Inv Y pins aN H1 s1)(h:tt aN H1 Q):wpAny (model Y.prog Y.w) Y.A (lN [c] Y.env) (TP Y pins aN Q) cR s1:=by
 have z:=ht pins s1 aN H1 Q I h;rw[hx]at z;unfold lN;rw[ak2];simp only[if_true];refine ff (ff (aD z fun b s2 q=>xp ?_));exact xp q
end
def xF:TT:=fun _ H Q=>Q true H
section
variable {X:Cx}
theorem Zt:cX X (binaryOp .Add) (P9 X.K):=by
 intro pins s σ H x y v u Q I rx ry h;obtain⟨l,b,xs,zs,rfl,rfl,hH,hB,hz,q⟩:=h;cases rx;cases ry;obtain⟨its,r,⟨⟨cl,dd,da,sl⟩,n,e,c1,c2,d1⟩,z⟩:=I.list hH;obtain⟨hU,r2,⟨⟨cl2,dd2,da2,Gf⟩,n2,e2,c3,c4,d2⟩,z2⟩:=I.list hB;simp only at c1 d1 c3 d2;subst c1 d1 c3 d2;have l1:=r.length;have l2:=r2.length;refine concat_meets ⟨_,e,rfl⟩ ⟨_,e2,rfl⟩ noFill_list_add seq_list_add PySem.F.slot_list_add PySem.F.entry_list_add (PySem.F.args_list_add_2 _ _) (list_addW l b its.toArray hU.toArray n n2 dd dd2 sl Gf (by simp;omega)) ⟨e,e2,?_⟩;have ea:its.toArray++hU.toArray=(its++hU).toArray:=by simp
 rw[ea];exact⟨.ref _,_,I.yP (t':=s.toks) (r.append r2) (by rw[qr];omega),rfl,q _ I.fresh⟩
end
end L2
namespace L2
open PySem
theorem VD:bootBuiltins "isinstance" = some (.builtin "isinstance"):=by decide +kernel
theorem aaB:bootBuiltins "abs" = some (.builtin "abs"):=by decide +kernel
theorem Dp:bootBuiltins "len" = some (.builtin "len"):=by decide +kernel
theorem aaC:bootBuiltins "sum" = some (.builtin "sum"):=by decide +kernel
theorem aaD:bootBuiltins "min" = some (.builtin "min"):=by decide +kernel
theorem aaE:bootBuiltins "max" = some (.builtin "max"):=by decide +kernel
theorem wM:bootBuiltins "sorted" = some (.builtin "sorted"):=by decide +kernel
theorem aaF:bootBuiltins "all" = some (.builtin "all"):=by decide +kernel
theorem aaG:bootBuiltins "any" = some (.builtin "any"):=by decide +kernel
theorem OS:bootBuiltins "int" = some (.type "int"):=by decide +kernel
theorem NF:bootBuiltins "bool" = some (.type "bool"):=by decide +kernel
theorem rO:bootBuiltins "list" = some (.type "list"):=by decide +kernel
theorem B8:bootBuiltins "tuple" = some (.type "tuple"):=by decide +kernel
theorem aaH:bootBuiltins "zip" = some (.type "zip"):=by decide +kernel
theorem V6:bootBuiltins "enumerate" = some (.type "enumerate"):=by decide +kernel
end L2
namespace L2
open PySem PySem.Spec PyProof.Rows
def fN (cells:List (Str×Addr)):List (Str×NameKind)->List (Str×Addr)->List (Str×Addr)
 |[],cs=>cs
 |(n,k)::r,cs=>fN cells r (if k==.free then (n,(cells.lookup n).getD 0)::cs else cs)
theorem NI {sc:Scope}{env:Env}(h:∀ p ∈ sc.names,p.2=.free->∃ c,env.cells.lookup p.1=some c):closureFor sc env=pure (fN env.cells sc.names []):=by
 have key:∀ (names:List (Str×NameKind)) (cs:List (Str×Addr)),(∀ p ∈ names,p.2=.free->∃ c,env.cells.lookup p.1=some c) ->
   (forIn names cs fun x t=>match x with
    |(name,kind)=>if(kind==NameKind.free)=true then do
       let a <- cellOf env name
       pure (ForInStep.yield ((name,a)::t))
      else pure (ForInStep.yield t))=(pure (fN env.cells names cs):Sem (List (Str×Addr))):=by
  intro names
  induction names with
  |nil=>intro cs _;rfl
  |cons p r ih =>
   intro cs hp;obtain⟨n,k⟩:=p;rw[ak2];cases hk:k==NameKind.free with
   |true =>
    obtain⟨c,hc⟩:=hp (n,k) (.head _) (OR.mp hk);have jJ:env.cells.lookup n=some c:=hc;have e1:cellOf env n=pure c:=by unfold cellOf;rw[jJ]
    have e2:fN env.cells ((n,k)::r) cs=fN env.cells r ((n,c)::cs):=by
     show fN env.cells r (if(k==NameKind.free)=true then _ else _)=_;rw[hk,jJ,lp rfl]
     rfl
    rw[e2,<- ih ((n,c)::cs) fun q hq=>hp q (.tail _ hq)];simp only[hk,if_true,e1]
    rfl
   |false =>
    have e2:fN env.cells ((n,k)::r) cs=fN env.cells r cs:=by
     show fN env.cells r (if(k==NameKind.free)=true then _ else _)=_;rw[hk,mf (by decide)]
    rw[e2,<- ih cs fun q hq=>hp q (.tail _ hq)];simp only[hk,YO,akU]
    rfl
 simp only[closureFor];rw[key sc.names [] h]
 rfl
theorem BD {cells:List (Str×Addr)}:∀ (names:List (Str×NameKind)) (cs:List (Str×Addr)),(∀ p ∈ names,p.2=.free->∃ c,cells.lookup p.1=some c)->(∀ y c,cs.lookup y=some c->cells.lookup y=some c) ->
  ∀ y c,(fN cells names cs).lookup y=some c->cells.lookup y=some c
 |[],_,_,h=>h
 |(n,k)::r,cs,hp,h=>by
  refine BD r _ (fun q hq=>hp q (.tail _ hq)) fun y c e=>?_
  split at e
  ·rename_i hk
   obtain⟨c0,hc⟩:=hp (n,k) (.head _) (OR.mp hk);have jJ:cells.lookup n=some c0:=hc;rw[DD]at e;split at e
   ·rename_i hy
    have:y=n:=OR.mp hy;subst this;rw[jJ]at e;cases e;exact jJ
   ·exact h y c e
  ·exact h y c e
theorem Ly {cells:List (Str×Addr)}:∀ (names:List (Str×NameKind)) (cs:List (Str×Addr)) (y:Str),(∃ c,cs.lookup y=some c)->∃ c,(fN cells names cs).lookup y=some c
 |[],_,_,h=>h
 |(n,k)::r,cs,y,⟨c,h⟩=>by
  refine Ly r _ y ?_;split
  ·rw[DD];split
   ·exact⟨_,rfl⟩
   ·exact⟨c,h⟩
  ·exact⟨c,h⟩
theorem jQ {cells:List (Str×Addr)}:∀ (names:List (Str×NameKind)) (cs:List (Str×Addr)) (y:Str),(y,NameKind.free) ∈ names->∃ c,(fN cells names cs).lookup y=some c
 |[],_,_,h=>nomatch h
 |(n,k)::r,cs,y,h=>by
  rcases gr.mp h with e | h
  ·have e1:y=n:=congrArg (·.1) e;have e2:NameKind.free=k:=congrArg (·.2) e;subst e1 e2;refine Ly r _ _ ?_;rw[lp (by decide),List.lookup_cons_self];exact⟨_,rfl⟩
  ·exact jQ r _ y h
theorem mem_of_lookup {κ β:Type} [BEq κ] [LawfulBEq κ]{l:List (κ×β)}{y : κ}{k : β}(h:l.lookup y=some k):(y,k) ∈ l:=by
 induction l with
 |nil=>cases h
 |cons p r ih =>
  obtain⟨n,b⟩:=p;rw[DD]at h;split at h
  ·rename_i hy
   have:y=n:=OR.mp hy;subst this;cases h;exact .head _
  ·exact .tail _ (ih h)
section
variable {CX:iO}{P:Program}{w:World}{K:Frag}{mg:Str->Option Value}{base:Heap}{N:List Str}{qual:Str}{cf:Scope}{f:Addr}{cd:Value}{A:Around}{outer:List Env}{s:Shared}{H:Hp}{E:XK}{XE:Value->Shared->Prop}
structure Zu (N:List Str) (cf sc:Scope) (fr:List Nat):Prop where
 kind:sc.kind=.function
 Qb:cf.kind=.function
 aaI:∀ y ∈ sc.names,y.2 ≠ .cell
 loc:∀ y ∈ sc.names,y.2=.local->sc.names.lookup y.1=some .local
 pO:∀ y ∈ sc.names,y.2=.free->cf.names.lookup y.1=some .cell
 eA:∀ j ∈ fr,sc.names.lookup (N.getD j "")=some .free/\j<N.length
theorem ql {env:Env}:∀ {names:List (Str×NameKind)} {y:Str} {k:NameKind},(names.map fun(n,k)=>if(k==NameKind.free&&env.scope.kind==.function&&env.kindOf n==some .cell)then (n,NameKind.cell)else (n,k)).lookup y=some k ->
  ∃ k0,names.lookup y=some k0/\(k=k0\/(k=.cell/\k0=.free))
 |[],_,_,h=>by cases h
 |(n,k0)::r,y,k,h=>by
  rw[i8]at h;simp only at h;split at h
  ·rename_i hc
   rw[DD]at h ⊢;split at h
   ·cases h
    simp only[BS,OR]at hc;exact⟨k0,rfl,.inr ⟨rfl,hc.1.1⟩⟩
   ·exact ql h
  ·rw[DD]at h ⊢;split at h
   ·cases h
    exact⟨k0,rfl,.inl rfl⟩
   ·exact ql h
theorem tR {env:Env}:∀ {names:List (Str×NameKind)} {y:Str},names.lookup y=some .free ->
  (names.map fun(n,k)=>if(k==NameKind.free&&env.scope.kind==.function&&env.kindOf n==some .cell)then (n,NameKind.cell)else (n,k)).lookup y=some .cell \/
  (names.map fun(n,k)=>if(k==NameKind.free&&env.scope.kind==.function&&env.kindOf n==some .cell)then (n,NameKind.cell)else (n,k)).lookup y=some .free
 |[],_,h=>by cases h
 |(n,k0)::r,y,h=>by
  rw[i8];rw[DD]at h;simp only;split at h
  ·rename_i hy
   cases h
   split
   ·left;rw[DD,hy]
   ·right;rw[DD,hy]
  ·rename_i hy
   split
   ·rw[DD,hy];exact tR h
   ·rw[DD,hy];exact tR h
structure Yi (N:List Str) (cf sc:Scope) (fr:List Nat):Prop where
 kind:sc.kind=.function
 Qb:cf.kind=.function
 own:∀ y ∈ sc.names,y.2=.cell->∀ z ∈ sc.names,z.2=.free->z.1 ≠ y.1
 loc:∀ y ∈ sc.names,y.2=.local->sc.names.lookup y.1=some .local
 pO:∀ y ∈ sc.names,y.2=.free->cf.names.lookup y.1=some .cell
 eA:∀ j ∈ fr,sc.names.lookup (N.getD j "")=some .free/\j<N.length
theorem Bp {cells:List (Str×Addr)}:∀ (names:List (Str×NameKind)) (cs:List (Str×Addr)) (y:Str),(∀ z ∈ names,z.2=.free->z.1 ≠ y)->cs.lookup y=none->(fN cells names cs).lookup y=none
 |[],_,_,_,h=>h
 |(n,k)::r,cs,y,hn,h=>by
  refine Bp r _ y (fun z hz=>hn z (.tail _ hz)) ?_;split
  ·rename_i hk
   have nR:n ≠ y:=hn (n,k) (.head _) (OR.mp hk);have hb:(y==n)=false:=Pc.mpr fun e=>nR e.symm
   rw[DD,hb];exact h
  ·exact h
theorem A9 {env:Env}:∀ {names:List (Str×NameKind)} {y:Str},names.lookup y=some .cell ->
  (names.map fun(n,k)=>if(k==NameKind.free&&env.scope.kind==.function&&env.kindOf n==some .cell)then (n,NameKind.cell)else (n,k)).lookup y=some .cell
 |[],_,h=>by cases h
 |(n,k0)::r,y,h=>by
  rw[i8];rw[DD]at h;simp only;split at h
  ·rename_i hy
   cases h
   rw[mf (by intro z;rw[BS,BS]at z;exact absurd z.1.1 (by decide)),DD,hy]
  ·rename_i hy
   split
   ·rw[DD,hy];exact A9 h
   ·rw[DD,hy];exact A9 h
theorem yR {sc:Scope}{fr:List Nat}(L:Yi N cf sc fr):iW ((jg CX P w K mg base N qual cf f cd A outer s H E).jd XE) sc (fN (cellsFrom (s.heap.objs.size+1) cf.names []) sc.names []) fr:=by
 have nj:∀ p ∈ sc.names,p.2=.free->∃ c,(cellsFrom (s.heap.objs.size+1) cf.names []).lookup p.1=some c:=fun p hp e=>B6 (L.pO p hp e)
 refine⟨NI nj,L.kind,fun y hy=>Bp _ _ y (L.own _ hy rfl) rfl,L.loc,BD _ _ nj (fun _ _ e=>nomatch e),fun y hy=>?_,fun j hj=>?_⟩
 ·have hk:sc.names.lookup y=some .free\/sc.names.lookup y=some .cell:=by
   rcases hy with hy | hy
   ·obtain⟨k0,h1,h2⟩:=ql hy;rcases h2 with h2 | ⟨_,h2⟩
    ·rw[<- h2]at h1;exact .inr h1
    ·rw[h2]at h1;exact .inl h1
   ·obtain⟨k0,h1,h2⟩:=ql hy;rcases h2 with h2 | ⟨h2,_⟩
    ·rw[<- h2]at h1;exact .inl h1
    ·cases h2
  exact hk.imp (fun q=>jQ _ _ y (mem_of_lookup q)) mem_of_lookup
 ·obtain⟨h1,h2⟩:=L.eA j hj;have hm:=mem_of_lookup h1;have h3:=L.pO _ hm rfl;refine⟨N.getD j "",?_,?_,.inr (.inl h3),?_,jQ _ _ _ hm⟩
  ·show N[j]?=some (N.getD j "");rw[ba,ab h2]
   rfl
  ·exact tR h1
  ·intro z;have z':cf.names.lookup (N.getD j "")=some .local:=z;have jr:cf.names.lookup (N.getD j "")=some .cell:=h3;rw[jr]at z';cases z'
theorem lcs {sc:Scope}{fr:List Nat}(L:Zu N cf sc fr):iW ((jg CX P w K mg base N qual cf f cd A outer s H E).jd XE) sc (fN (cellsFrom (s.heap.objs.size+1) cf.names []) sc.names []) fr :=
 yR ⟨L.kind,L.Qb,fun y hy e=>absurd e (L.aaI y hy),L.loc,L.pO,L.eA⟩
theorem bV {sc:Scope}{fr:List Nat}(a:sc.kind=.function:=by rfl)(b:cf.kind=.function:=by rfl)(c:∀ y ∈ sc.names,y.2 ≠ .cell:=by decide +kernel)(d:∀ y ∈ sc.names,y.2=.local->sc.names.lookup y.1=some .local:=by decide +kernel)(e:∀ y ∈ sc.names,y.2=.free->cf.names.lookup y.1=some .cell:=by decide +kernel)(g:∀ j ∈ fr,sc.names.lookup (N.getD j "")=some .free/\j<N.length:=by decide +kernel):iW ((jg CX P w K mg base N qual cf f cd A outer s H E).jd XE) sc (fN (cellsFrom (s.heap.objs.size+1) cf.names []) sc.names []) fr:=lcs ⟨a,b,c,d,e,g⟩
end
structure MD (N:List Str) (cf sc:Scope) (fr:List Nat):Prop where
 kind:sc.kind=.function
 own:∀ y ∈ sc.names,y.2=.cell->∀ z ∈ sc.names,z.2=.free->z.1 ≠ y.1
 loc:∀ y ∈ sc.names,y.2=.local->sc.names.lookup y.1=some .local
 pO:∀ y ∈ sc.names,y.2=.free->cf.names.lookup y.1=some .cell\/cf.names.lookup y.1=some .free
 eA:∀ j ∈ fr,sc.names.lookup (N.getD j "")=some .free/\j<N.length
theorem acE {X:Cx}{lZ:List Str}{mK:List Nat}{cf:Scope}{nS:List (Str×Addr)}{C:Addr}{s:Shared}{H:Hp}{ex:List Addr}{pn:List (Addr×Obj)}{sc:Scope}{fr:List Nat}(L:MD (lZ++mK.map fun j=>X.N.getD j "") cf sc fr)(Gg:∀ y,(y,NameKind.free) ∈ cf.names->∃ c,nS.lookup y=some c) :
  iW (dm X lZ mK cf nS C s H ex pn) sc (fN (cellsFrom (C+1) cf.names nS) sc.names []) fr:=by
 have nj:∀ p ∈ sc.names,p.2=.free->∃ c,(cellsFrom (C+1) cf.names nS).lookup p.1=some c:=fun p hp e=>by
  rcases L.pO p hp e with q | q
  ·exact ya _ _ _ _ (mem_of_lookup q)
  ·exact uj _ _ _ _ (Gg _ (mem_of_lookup q))
 refine⟨NI nj,L.kind,fun y hy=>Bp _ _ y (L.own _ hy rfl) rfl,L.loc,BD _ _ nj (fun _ _ e=>nomatch e),fun y hy=>?_,fun j hj=>?_⟩
 ·have hk:sc.names.lookup y=some .free\/sc.names.lookup y=some .cell:=by
   rcases hy with hy | hy
   ·obtain⟨k0,h1,h2⟩:=ql hy;rcases h2 with h2 | ⟨_,h2⟩
    ·rw[<- h2]at h1;exact .inr h1
    ·rw[h2]at h1;exact .inl h1
   ·obtain⟨k0,h1,h2⟩:=ql hy;rcases h2 with h2 | ⟨h2,_⟩
    ·rw[<- h2]at h1;exact .inl h1
    ·cases h2
  exact hk.imp (fun q=>jQ _ _ y (mem_of_lookup q)) mem_of_lookup
 ·obtain⟨h1,h2⟩:=L.eA j hj;have hm:=mem_of_lookup h1;have hv:(relabel cf X.env).names.lookup ((lZ++mK.map fun j=>X.N.getD j "").getD j "")=some .cell\/(relabel cf X.env).names.lookup ((lZ++mK.map fun j=>X.N.getD j "").getD j "")=some .free:=by
   rcases L.pO _ hm rfl with q | q
   ·exact .inl (A9 q)
   ·exact tR q
  refine⟨_,?_,tR h1,.inr hv,fun z=>?_,jQ _ _ _ hm⟩
  ·show(lZ++mK.map fun j=>X.N.getD j "")[j]?=some _;rw[ba,ab h2]
   rfl
  ·have z':(relabel cf X.env).names.lookup ((lZ++mK.map fun j=>X.N.getD j "").getD j "")=some .local:=z;rcases hv with q | q<;>rw[q]at z'<;>cases z'
section
variable {X:Cx}{K:Frag}
theorem NK (h:X.K=K):vD X (yO K):=h ▸ aaw
theorem Yj (h:X.K=K):vD X (uX K):=h ▸ uh
theorem XA (h:X.K=K):eQ X (.builtin "len") (fun xs H Q=>∃ p ys,xs=[.ref p]/\(aL K H p ys\/cW K H p ys)/\Q (.int ys.length) H):=h ▸ Lf
end
theorem au.tup {K:Frag}{H H':Hp}{a:Addr}{xs:List V}(e:au H H')(h:cW K H a xs):cW K H' a xs:=by
 rcases h with(h | ⟨o,h⟩) | h
 ·exact .inl (.inl (e _ _ h))
 ·exact .inl (.inr ⟨o,e _ _ h⟩)
 ·exact .inr h
theorem au.upd {H H':Hp}{p:Addr}{o:HO}(e:au H H')(hp:H p=none):au H (L2.upd H' p o):=fun b u h=>by
 rw[aQ (jP h hp)];exact e b u h
theorem au.new {H:Hp}{p:Addr}{o:HO}(hp:H p=none):au H (L2.upd H p o):=(au.refl H).upd hp
theorem iT {a:Int}(h0 : 0<=a)(h:a<2 ^ 60):a.natAbs<2 ^ 8000:=by
 have big:(2:Nat) ^ 60<2 ^ 8000:=Nat.pow_lt_pow_right (by decide) (by decide);omega
section
variable {P:Program}{w:World}{K:Frag}{mg:Str->Option Value}{base:Heap}
theorem aV.d {x qual:Str}{st:Stmt}{f:Addr}{fd:FuncData}(F:aV K x qual st f fd):sT K x qual st .none f fd:=⟨F.ex,F.kp⟩
end
section
variable {X:Cx}{tg:Expr}
theorem ME {bs:List Bool}{its:List Value}(r:Vals (bs.map V.bl) its):PyProof.Rows.LSm.BoolsAre its bs:=by
 induction bs generalizing its with
 |nil=>cases r;exact .nil
 |cons y ys ih =>
  cases r with
  |cons r1 rr =>
   cases r1
   exact .cons _ (ih rr)
def QN (K:Frag):List V->Hp->VK->Prop:=fun xs H Q=>∃ (p:Addr) (bs:List Bool),xs=[.ref p]/\aL K H p (bs.map V.bl)/\Q (.bl (bs.all id)) H
theorem Yk (hc:X.calm=true):eQ X (.builtin "all") (QN X.K):=by
 intro pins s σ H xs us Q I r h;obtain⟨p,bs,rfl,hq,q⟩:=h;cases r with
 |cons r1 rr =>
  cases rr
  cases r1
  obtain⟨its,rv,pl,hz⟩:=I.list hq;have hb:=ME rv;have hl:s.heap.IsList p its.toArray:=pl.isList;have aT:p<s.heap.objs.size:=by obtain⟨_,e,_⟩:=hl;exact xy e
  refine call_all_walk (akL hl ?_);refine⟨s.heap.objs.size,[s.heap.objs.size,p],[s.heap.objs.size],its.toArray.size,_,_,fun i=>(bs[i]?).getD true,rfl,Walks.list (A:=X.A.in1) (I.ok.hd hc) _ p (Co aT) its.toArray,
   ⟨⟨_,EO _ rfl,rfl,rfl⟩,hl.push _⟩,fun i v s' Q' E' hP hQ=>?_,fun h' tk hk=>?_⟩
  ·obtain⟨b,e,rfl⟩:=hb.get i v (by simpa using hP);simp only[e,ake]at hQ;exact NL hQ
  ·have e:((List.range its.toArray.size).all fun i=>(bs[i]?).getD true)=bs.all id:=by
    rw[uu,hb.length];exact LSm.range_all bs
   rw[e];exact⟨.bl _,H,I.kept (t':=tk) (LSm.kept_iter hk),rfl,q⟩
end
inductive Tr where
 |fz (d:Dv)
 |ow (ts:List Tr)
 |tp (ts:List Tr)
mutual
def Ow (K:Frag)(G H:Hp):Tr->V->List Addr->Prop
 | .fz d,v,fp=>fp=[]/\Hv K G d v
 | .ow ts,v,fp=>∃ a vs fq,v=.ref a/\H a=some (.lst vs)/\aE K G H ts vs fq/\fp=a::fq
 | .tp ts,v,fp=>∃ a vs fq,v=.ref a/\H a=some (.tup vs)/\aE K G H ts vs fq/\fp=a::fq
def aE (K:Frag)(G H:Hp):List Tr->List V->List Addr->Prop
 |[],vs,fp=>vs=[]/\fp=[]
 |t::ts,vs,fp=>∃ v r f1 f2,vs=v::r/\fp=f1++f2/\Ow K G H t v f1/\aE K G H ts r f2
end
mutual
def er:Tr->Dv
 | .fz d=>d
 | .ow ts=>.lst (fX ts)
 | .tp ts=>.tup (fX ts)
def fX:List Tr->List Dv
 |[] => []
 |t::ts=>er t::fX ts
end
theorem kG:∀ ts:List Tr,fX ts=ts.map er
 |[] => rfl
 |t::ts=>by rw[fX,kG ts];rfl
mutual
theorem Hv.mono {K:Frag}{G G':Hp}(e:au G G'):∀ {d:Dv} {v:V},Hv K G d v->Hv K G' d v
 | .fl _,_,h=>h
 | .lst ds,_,⟨a,xs,h1,h2,h3⟩=>⟨a,xs,h1,e.seq h2,bC.mono e h3⟩
 | .tup ds,_,⟨a,xs,h1,h2,h3⟩=>⟨a,xs,h1,e.tup h2,bC.mono e h3⟩
theorem bC.mono {K:Frag}{G G':Hp}(e:au G G'):∀ {ds:List Dv} {vs:List V},bC K G ds vs->bC K G' ds vs
 |[],_,h=>h
 |_::_,_,⟨x,r,h1,h2,h3⟩=>⟨x,r,h1,h2.mono e,bC.mono e h3⟩
end
mutual
theorem Ow.mono {K:Frag}{G G' H H':Hp}(e:au G G')(e':au H H'):∀ {t:Tr} {v:V} {fp:List Addr},Ow K G H t v fp->Ow K G' H' t v fp
 | .fz _,_,_,⟨h1,h2⟩=>⟨h1,h2.mono e⟩
 | .ow _,_,_,⟨a,vs,fq,h1,h2,h3,h4⟩=>⟨a,vs,fq,h1,e' _ _ h2,aE.mono e e' h3,h4⟩
 | .tp _,_,_,⟨a,vs,fq,h1,h2,h3,h4⟩=>⟨a,vs,fq,h1,e' _ _ h2,aE.mono e e' h3,h4⟩
theorem aE.mono {K:Frag}{G G' H H':Hp}(e:au G G')(e':au H H'):∀ {ts:List Tr} {vs:List V} {fp:List Addr},aE K G H ts vs fp->aE K G' H' ts vs fp
 |[],_,_,h=>h
 |_::_,_,_,⟨v,r,f1,f2,h1,h2,h3,h4⟩=>⟨v,r,f1,f2,h1,h2,h3.mono e e',aE.mono e e' h4⟩
end
mutual
theorem Ow.frame {K:Frag}{G H:Hp}{a:Addr}{o:HO}:∀ {t:Tr} {v:V} {fp:List Addr},Ow K G H t v fp->a ∉ fp->Ow K G (upd H a o) t v fp
 | .fz _,_,_,h,_=>h
 | .ow _,_,_,⟨b,vs,fq,h1,h2,h3,h4⟩,n=>by
  subst h4;refine⟨b,vs,fq,h1,?_,aE.frame h3 fun z=>n (.tail _ z),rfl⟩;rw[aQ fun z=>n (by rw[z];exact .head _)];exact h2
 | .tp _,_,_,⟨b,vs,fq,h1,h2,h3,h4⟩,n=>by
  subst h4;refine⟨b,vs,fq,h1,?_,aE.frame h3 fun z=>n (.tail _ z),rfl⟩;rw[aQ fun z=>n (by rw[z];exact .head _)];exact h2
theorem aE.frame {K:Frag}{G H:Hp}{a:Addr}{o:HO}:∀ {ts:List Tr} {vs:List V} {fp:List Addr},aE K G H ts vs fp->a ∉ fp->aE K G (upd H a o) ts vs fp
 |[],_,_,h,_=>h
 |_::_,_,_,⟨v,r,f1,f2,h1,h2,h3,h4⟩,n=>by
  subst h2;exact⟨v,r,f1,f2,h1,rfl,h3.frame fun z=>n (nv _ z),aE.frame h4 fun z=>n (ij _ z)⟩
end
mutual
theorem Ow.there {K:Frag}{G H:Hp}:∀ {t:Tr} {v:V} {fp:List Addr},Ow K G H t v fp->∀ a ∈ fp,∃ o,H a=some o
 | .fz _,_,_,⟨h,_⟩,a,ha=>by subst h;cases ha
 | .ow _,_,_,⟨b,vs,fq,h1,h2,h3,h4⟩,a,ha=>by
  subst h4;rcases gr.mp ha with rfl | ha
  ·exact⟨_,h2⟩
  ·exact aE.there h3 a ha
 | .tp _,_,_,⟨b,vs,fq,h1,h2,h3,h4⟩,a,ha=>by
  subst h4;rcases gr.mp ha with rfl | ha
  ·exact⟨_,h2⟩
  ·exact aE.there h3 a ha
theorem aE.there {K:Frag}{G H:Hp}:∀ {ts:List Tr} {vs:List V} {fp:List Addr},aE K G H ts vs fp->∀ a ∈ fp,∃ o,H a=some o
 |[],_,_,⟨_,h⟩,a,ha=>by subst h;cases ha
 |_::_,_,_,⟨v,r,f1,f2,h1,h2,h3,h4⟩,a,ha=>by
  subst h2;rcases wb.mp ha with ha | ha
  ·exact h3.there a ha
  ·exact aE.there h4 a ha
end
mutual
theorem Ow.hv {K:Frag}{G H G':Hp}(e:au G G'):∀ {t:Tr} {v:V} {fp:List Addr},Ow K G H t v fp->(∀ a ∈ fp,G' a=H a)->Hv K G' (er t) v
 | .fz _,_,_,⟨_,h⟩,_=>h.mono e
 | .ow _,_,_,⟨b,vs,fq,h1,h2,h3,h4⟩,q=>by
  subst h4;exact⟨b,vs,h1,aL.of ((q b (.head _)).trans h2),aE.hv e h3 fun a ha=>q a (.tail _ ha)⟩
 | .tp _,_,_,⟨b,vs,fq,h1,h2,h3,h4⟩,q=>by
  subst h4;exact⟨b,vs,h1,cW.of ((q b (.head _)).trans h2),aE.hv e h3 fun a ha=>q a (.tail _ ha)⟩
theorem aE.hv {K:Frag}{G H G':Hp}(e:au G G'):∀ {ts:List Tr} {vs:List V} {fp:List Addr},aE K G H ts vs fp->(∀ a ∈ fp,G' a=H a)->bC K G' (fX ts) vs
 |[],_,_,⟨h,_⟩,_=>h
 |_::_,_,_,⟨v,r,f1,f2,h1,h2,h3,h4⟩,q=>by
  subst h2;exact⟨v,r,h1,h3.hv e fun a ha=>q a (nv _ ha),aE.hv e h4 fun a ha=>q a (ij _ ha)⟩
end
theorem aE.length {K:Frag}{G H:Hp}:∀ {ts:List Tr} {vs:List V} {fp:List Addr},aE K G H ts vs fp->ts.length=vs.length
 |[],_,_,⟨h,_⟩=>by subst h;rfl
 |_::_,_,_,⟨v,r,f1,f2,h1,h2,h3,h4⟩=>by subst h1;rw[AN,AN,aE.length h4]
theorem aE.append {K:Frag}{G H:Hp}:∀ {ts us:List Tr} {vs ws:List V} {f1 f2:List Addr},aE K G H ts vs f1->aE K G H us ws f2->aE K G H (ts++us) (vs++ws) (f1++f2)
 |[],us,_,ws,_,f2,⟨h,h'⟩,q=>by subst h h';exact q
 |_::_,us,_,ws,_,f2,⟨v,r,g1,g2,h1,h2,h3,h4⟩,q=>by
  subst h1 h2;exact⟨v,r++ws,g1,g2++f2,rfl,by rw[ID],h3,aE.append h4 q⟩
theorem bC.jK {K:Frag}{G H:Hp}:∀ {ds:List Dv} {vs:List V},bC K G ds vs->aE K G H (ds.map .fz) vs []
 |[],_,h=>⟨h,rfl⟩
 |_::_,_,⟨x,r,h1,h2,h3⟩=>⟨x,r,[],[],h1,rfl,⟨rfl,h2⟩,bC.jK h3⟩
structure Step (G H G' H':Hp):Prop where
 g:au G G'
 h:au H H'
 s:au G' H'
 n:∀ a,G a=none->G' a ≠ none->H a=none
theorem Step.refl {G H:Hp}(s:au G H):Step G H G H:=⟨au.refl _,au.refl _,s,fun a h h'=>absurd h h'⟩
theorem Step.trans {G H G1 H1 G2 H2:Hp}(a:Step G H G1 H1)(b:Step G1 H1 G2 H2):Step G H G2 H2 :=
 ⟨a.g.trans b.g,a.h.trans b.h,b.s,fun x h h'=>by
  cases q:G1 x with
  |none=>exact a.h.free (b.n x q h')
  |some o=>exact a.n x h (by rw[q];exact fun z=>nomatch z)⟩
theorem au.acF {G H:Hp}{p:Addr}{o:HO}(s:au G H):au (L2.upd G p o) (L2.upd H p o):=fun b u h=>by
 unfold L2.upd at h ⊢;split
 ·rename_i e;rw[lp e]at h;exact h
 ·rename_i e;rw[mf e]at h;exact s b u h
theorem Step.new {G H:Hp}{p:Addr}{o:HO}(s:au G H)(hp:H p=none):Step G H (upd G p o) (upd H p o) :=
 ⟨au.new (s.free hp),au.new hp,s.acF,fun a h h'=>by
  by_cases e:a=p
  ·subst e;exact hp
  ·rw[aQ e]at h';exact absurd h h'⟩
theorem Step.hW {G H:Hp}{p:Addr}{o:HO}(s:au G H)(hp:H p=none):Step G H G (upd H p o) :=
 ⟨au.refl _,au.new hp,s.trans (au.new hp),fun a h h'=>absurd h h'⟩
structure Nw (H G':Hp) (fq:List Addr):Prop where
 n:∀ a ∈ fq,H a=none
 g:∀ a ∈ fq,G' a=none
 d:fq.Nodup
theorem Nw.nil {H G:Hp}:Nw H G []:=⟨fun _ h=>(nomatch h),fun _ h=>(nomatch h),.nil⟩
def Kv (K:Frag)(G H:Hp)(t:Tr)(Q:VK):Prop:=∀ v G' H' fq,Step G H G' H'->Ow K G' H' t v fq->Nw H G' fq->Q v H'
theorem Kv.step {K:Frag}{G H G1 H1:Hp}{t:Tr}{Q:VK}(k:Kv K G H t Q)(e:Step G H G1 H1):Kv K G1 H1 t Q:=fun v G' H' fq st o w =>
 k v G' H' fq (e.trans st) o ⟨fun a ha=>e.h.free (w.n a ha),w.g,w.d⟩
def eu (G H:Hp)(fq:List Addr):Hp:=fun a=>if a ∈ fq then H a else G a
theorem iX {G H:Hp}{fq:List Addr}{a:Addr}(h:a ∈ fq):eu G H fq a=H a:=by unfold eu;rw[lp h]
theorem mX {G H:Hp}{fq:List Addr}{a:Addr}(h:a ∉ fq):eu G H fq a=G a:=by unfold eu;rw[mf h]
theorem jy {G H:Hp}{fq:List Addr}(h:∀ a ∈ fq,G a=none):au G (eu G H fq):=fun b o e=>by
 by_cases q:b ∈ fq
 ·rw[h b q]at e;cases e
 ·rw[mX q];exact e
theorem ou {G H:Hp}{fq:List Addr}(s:au G H):au (eu G H fq) H:=fun b o e=>by
 by_cases q:b ∈ fq
 ·rw[iX q]at e;exact e
 ·rw[mX q]at e;exact s b o e
theorem Step.dP {G H G' H':Hp}{fq:List Addr}(e:Step G H G' H')(w:Nw H G' fq):Step G H (eu G' H' fq) H' :=
 ⟨e.g.trans (jy w.g),e.h,ou e.s,fun a h h'=>by
  by_cases q:a ∈ fq
  ·exact w.n a q
  ·rw[mX q]at h';exact e.n a h h'⟩
structure bc (ι:Type) where
 cx : ι->Cx
 P:Program
 w:World
 K:Frag
 mg:Str->Option Value
 base:Heap
 room:Nat
 hP:∀ i,(cx i).prog=P
 hw:∀ i,(cx i).w=w
 hK:∀ i,(cx i).K=K
 hm:∀ i,(cx i).mg=mg
 hb:∀ i,(cx i).base=base
 hr:∀ i,eh room (cx i).A
 calm:∀ i,(cx i).calm=true
abbrev En:=List (Option Tr)
def cj (K:Frag)(G:Hp)(ρ:En)(σ:St):Prop:=∀ (j:Nat) (d:Dv),ρ[j]?=some (some (Tr.fz d))->∃ v,σ[j]?=some (some v)/\Hv K G d v
theorem cj.mono {K:Frag}{G G':Hp}{ρ:En}{σ:St}(e:au G G')(r:cj K G ρ σ):cj K G' ρ σ:=fun j d h=>by
 obtain⟨v,h1,h2⟩:=r j d h;exact⟨v,h1,h2.mono e⟩
section
variable {ι:Type}
def Ev (F:bc ι)(e:Expr)(ρ:En)(t:Tr):Prop:=∃ τ:TE,(∀ i,PE (F.cx i) e τ)/\∀ σ G H Q,au G H->cj F.K G ρ σ->Kv F.K G H t Q->τ σ H Q
def Et (F:bc ι)(e:Expr)(ρ:En)(b:Bool):Prop:=∃ τ:TT,(∀ i,PT (F.cx i) e τ)/\∀ σ G H Q,au G H->cj F.K G ρ σ->(∀ G' H',Step G H G' H'->Q b H')->τ σ H Q
def jt (F:bc ι)(es:List Expr)(ρ:En)(ts:List Tr):Prop:=∃ τ:TA,(∀ i,PA (F.cx i) es τ)/\∀ σ G H Q,au G H->cj F.K G ρ σ ->
 (∀ vs G' H' fq,Step G H G' H'->aE F.K G' H' ts vs fq->Nw H G' fq->Q vs H')->τ σ H Q
variable {F:bc ι}{e a b:Expr}{es:List Expr}{ρ:En}{t ta tb:Tr}{ts:List Tr}
theorem Ev.use (h:Ev F e ρ t):∃ τ:TE,(∀ i,PE (F.cx i) e τ)/\∀ σ G H (Q:VK),au G H->cj F.K G ρ σ->(∀ v G' H',Step G H G' H'->Hv F.K G' (er t) v->Q v H')->τ σ H Q:=by
 obtain⟨τ,p,q⟩:=h;refine⟨τ,p,fun σ G H Q s r k=>q σ G H Q s r fun v G' H' fq st o w=>?_⟩;exact k v (eu G' H' fq) H' (st.dP w) (o.hv (jy w.g) fun a ha=>iX ha)
theorem Ev.fz (h:Ev F e ρ t):Ev F e ρ (.fz (er t)):=by
 obtain⟨τ,p,q⟩:=h.use;exact⟨τ,p,fun σ G H Q s r k=>q σ G H Q s r fun v G' H' st hv=>k v G' H' [] st ⟨rfl,hv⟩ .nil⟩
theorem Ev.as {d:Dv}(h:Ev F e ρ t)(ed:er t=d):Ev F e ρ (.fz d):=ed ▸ h.fz
theorem jt.use (h:jt F es ρ ts):∃ τ:TA,(∀ i,PA (F.cx i) es τ)/\∀ σ G H (Q:List V->Hp->Prop),au G H->cj F.K G ρ σ->(∀ vs G' H',Step G H G' H'->bC F.K G' (fX ts) vs->Q vs H')->τ σ H Q:=by
 obtain⟨τ,p,q⟩:=h;refine⟨τ,p,fun σ G H Q s r k=>q σ G H Q s r fun v G' H' fq st o w=>?_⟩;exact k v (eu G' H' fq) H' (st.dP w) (o.hv (jy w.g) fun a ha=>iX ha)
theorem aw:jt F [] ρ []:=⟨dO,fun i=>cu,fun σ G H Q s r k=>k [] G H [] (.refl s) ⟨rfl,rfl⟩ .nil⟩
theorem Nw.app {H G1 H1 G2:Hp}{f1 f2:List Addr}(w1:Nw H G1 f1)(w2:Nw H1 G2 f2)(hh:au H H1)(th:∀ a ∈ f1,∃ o,H1 a=some o)(hg:∀ a,G1 a=none->G2 a ≠ none->H1 a=none):Nw H G2 (f1++f2) :=
 ⟨fun a ha=>(wb.mp ha).elim (w1.n a) fun z=>hh.free (w2.n a z),fun a ha=>(wb.mp ha).elim (fun z=>by
   cases q:G2 a with
   |none=>rfl
   |some o =>
    obtain⟨u,hu⟩:=th a z;have:=hg a (w1.g a z) (by rw[q];exact fun z=>nomatch z);rw[hu]at this;cases this) (w2.g a),
  r8.mpr ⟨w1.d,w2.d,fun a ha b hb e=>by
   subst e;obtain⟨u,hu⟩:=th a ha;rw[w2.n a hb]at hu;cases hu⟩⟩
theorem aj (ha:Ev F e ρ t)(hr:jt F es ρ ts)(hs:∀ i,starEach (e::es) (F.cx i).env=(false,eval e (F.cx i).env)::starEach es (F.cx i).env:=by intro _;rfl):jt F (e::es) ρ (t::ts):=by
 obtain⟨τ,p,q⟩:=ha;obtain⟨bY,p',q'⟩:=hr;refine⟨dc τ bY,fun i=>aX (p i) (p' i) (hs i),fun σ G H Q s r k=>?_⟩;refine q σ G H _ s r fun v G1 H1 f1 s1 o1 w1=>q' σ G1 H1 _ s1.s (r.mono s1.g) fun vs G2 H2 f2 s2 o2 w2=>?_
 exact k (v::vs) G2 H2 (f1++f2) (s1.trans s2) ⟨v,vs,f1,f2,rfl,rfl,o1.mono s2.g s2.h,o2⟩ (w1.app w2 s1.h (fun a ha=>o1.there a ha) s2.n)
end
end L2
namespace L2
open PySem PySem.Spec PyProof.Rows
abbrev di (n:Int):Dv:=.fl (.int n)
abbrev db (b:Bool):Dv:=.fl (.bl b)
abbrev dn:Dv:=.fl .aH
abbrev ds (x:Str):Dv:=.fl (.str x)
abbrev dis (ns:LI):Dv:=.lst (ns.map di)
abbrev ti (n:Int):Tr:=.fz (di n)
abbrev tb (b:Bool):Tr:=.fz (db b)
abbrev tn:Tr:=.fz dn
abbrev tx (x:Str):Tr:=.fz (ds x)
theorem Kv.sc {K:Frag}{G H:Hp}{v:V}{Q:VK}(k:Kv K G H (.fz (.fl v)) Q)(s:au G H)(f:fE v=true):Q v H:=k v G H [] (.refl s) ⟨rfl,rfl,f⟩ .nil
theorem Kv.dat {K:Frag}{G H:Hp}{d:Dv}{v:V}{Q:VK}(k:Kv K G H (.fz d) Q)(s:au G H)(h:Hv K G d v):Q v H:=k v G H [] (.refl s) ⟨rfl,h⟩ .nil
theorem Kv.lst {K:Frag}{G H:Hp}{ts:List Tr}{vs:List V}{Q:VK}(k:Kv K G H (.ow ts) Q)(s:au G H)(h:aE K G H ts vs []){p:Addr}(hp:H p=none):Q (.ref p) (upd H p (.lst vs)) :=
 k (.ref p) G _ [p] (.hW s hp) ⟨p,vs,[],rfl,bO,h.mono (au.refl _) (au.new hp),rfl⟩ ⟨fun a ha=>by rw[rf.mp ha];exact hp,fun a ha=>by rw[rf.mp ha];exact s.free hp,by simp⟩
theorem aO {K:Frag}{G:Hp}{v x:V}(h:Hv K G (.fl v) x):x=v:=h.1
section
variable {ι:Type}{F:bc ι}{e a b c:Expr}{es:List Expr}{ρ:En}{t ta tb':Tr}{ts:List Tr}{pos:Pos}
theorem ae (j:Nat){d:Dv}{x:Str}(h : ρ[j]?=some (some (.fz d)))(hN:∀ i,(F.cx i).N[j]?=some x:=by intro _;rfl)(hv:∀ i,jI (F.cx i).env.scope x:=by intro _;first | exact Or.inl rfl | exact Or.inr (Or.inl rfl) | exact Or.inr (Or.inr rfl))(hd:(x==("__debug__" : Str))=false:=by decide)(hc:(x==("__classdict__" : Str))=false:=by decide):Ev F (.Name x pos) ρ (.fz d) :=
 ⟨bU j,fun i=>m4 (hN i) (hv i) hd hc,fun σ G H Q s r k=>by
  obtain⟨v,h1,h2⟩:=r j d h;exact⟨v,h1,k.dat s h2⟩⟩
theorem av {n:Int}{j:Nat}:Ev F (.Constant (.int n) j pos) ρ (ti n):=⟨_,fun i=>Df,fun σ G H Q s r k=>k.sc s rfl⟩
theorem uN {n:Bool}{j:Nat}:Ev F (.Constant (.bool n) j pos) ρ (tb n):=⟨_,fun i=>nk,fun σ G H Q s r k=>k.sc s rfl⟩
theorem OT {j:Nat}:Ev F (.Constant .none j pos) ρ tn:=⟨_,fun i=>x5,fun σ G H Q s r k=>k.sc s rfl⟩
theorem um {x:Str}{v:V}{u:Value}(hm:F.mg x=some u)(r:RelV v u)(f:fE v=true)(hg:∀ i,Gl (F.cx i) x:=by intro _;rfl)(hd:(x==("__debug__" : Str))=false:=by decide):Ev F (.Name x pos) ρ (.fz (.fl v)) :=
 ⟨tC v,fun i=>Zg (hg i) ((F.hm i).symm ▸ hm) r hd,fun σ G H Q s _ k=>k.sc s f⟩
theorem sd {op:Operator}{r:R2}(ho:∀ i,cX (F.cx i) (binaryOp op) r)(ha:Ev F a ρ ta)(hb:Ev F b ρ tb')(h:∀ G H x y Q,au G H->Hv F.K G (er ta) x->Hv F.K G (er tb') y->Kv F.K G H t Q->r x y H Q):Ev F (.BinOp a op b pos) ρ t:=by
 obtain⟨τ,p,q⟩:=ha.use;obtain⟨bY,p',q'⟩:=hb.use;refine⟨iu r τ bY,fun i=>D5 (ho i) (p i) (p' i),fun σ G H Q s rr k=>?_⟩;refine q σ G H _ s rr fun x G1 H1 s1 hx=>q' σ G1 H1 _ s1.s (rr.mono s1.g) fun y G2 H2 s2 hy=>?_
 exact h G2 H2 x y Q s2.s (hx.mono s2.g) hy (k.step (s1.trans s2))
theorem eI {i j:Int}(ha:Ev F a ρ (ti i))(hb:Ev F b ρ (ti j)):Ev F (.BinOp a .Add b pos) ρ (ti (i+j)):=sd (fun _=>OG) ha hb fun G H x y Q s hx hy k=>⟨i,j,aO hx,aO hy,k.sc s rfl⟩
theorem se {i j:Int}(ha:Ev F a ρ (ti i))(hb:Ev F b ρ (ti j)):Ev F (.BinOp a .Sub b pos) ρ (ti (i-j)):=sd (fun _=>aaq) ha hb fun G H x y Q s hx hy k=>⟨i,j,aO hx,aO hy,k.sc s rfl⟩
theorem d9 {i j:Int}(ha:Ev F a ρ (ti i))(hb:Ev F b ρ (ti j))(hc:P8 i j):Ev F (.BinOp a .Mult b pos) ρ (ti (i*j)):=sd (fun _=>Zq) ha hb fun G H x y Q s hx hy k=>⟨i,j,aO hx,aO hy,hc,k.sc s rfl⟩
theorem gh {i j:Int}(ha:Ev F a ρ (ti i))(hb:Ev F b ρ (ti j))(hc:D9 i j):Ev F (.BinOp a .FloorDiv b pos) ρ (ti (i / j)):=sd (fun _=>Yg) ha hb fun G H x y Q s hx hy k=>⟨i,j,aO hx,aO hy,hc,k.sc s rfl⟩
theorem gZ {i j:Int}(ha:Ev F a ρ (ti i))(hb:Ev F b ρ (ti j))(hc : 0<j):Ev F (.BinOp a .Mod b pos) ρ (ti (i % j)):=sd (fun _=>aar) ha hb fun G H x y Q s hx hy k=>⟨i,j,aO hx,aO hy,hc,k.sc s rfl⟩
theorem aaJ {i:Int}(ha:Ev F a ρ (ti i)):Ev F (.UnaryOp .USub a pos) ρ (ti (-i)):=by
 obtain⟨τ,p,q⟩:=ha.use;exact⟨_,fun i=>abR aas (p i),fun σ G H Q s rr k=>q σ G H _ s rr fun x G1 H1 s1 hx=>⟨i,aO hx,(k.step s1).sc s1.s rfl⟩⟩
theorem yb {xs ys:List Dv}(ha:Ev F a ρ ta)(hb:Ev F b ρ tb')(ea:er ta=.lst xs)(eb:er tb'=.lst ys)(hz:xs.length+ys.length<=sizeLine):Ev F (.BinOp a .Add b pos) ρ (.ow ((xs++ys).map .fz)) :=
 sd (r:=P9 F.K) (fun i=>F.hK i ▸ Zt) ha hb fun G H x y Q s hx hy k=>by
  rw[ea]at hx;rw[eb]at hy;obtain⟨l,vs,rfl,h1,h2⟩:=hx;obtain⟨l',ws,rfl,h3,h4⟩:=hy;refine⟨l,l',vs,ws,rfl,rfl,s.seq h1,s.seq h3,by rw[<- h2.length,<- h4.length];exact hz,fun p hp=>?_⟩;refine k.lst s ?_ hp;rw[Cs];exact h2.jK.append h4.jK
theorem sf {op:CmpOp}{r:R2}{c:Bool}(ho:∀ i,cX (F.cx i) (compareOp op) r)(ha:Ev F a ρ ta)(hb:Ev F b ρ tb')(h:∀ G H x y (Q:VK),au G H->Hv F.K G (er ta) x->Hv F.K G (er tb') y->Q (.bl c) H->r x y H Q)(hm:behindInMarks op b=false):Ev F (.Compare a [op] [b] pos) ρ (tb c):=by
 obtain⟨τ,p,q⟩:=ha.use;obtain⟨bY,p',q'⟩:=hb.use;refine⟨iu r τ bY,fun i=>Zi (ho i) (p i) (p' i) hm,fun σ G H Q s rr k=>?_⟩;refine q σ G H _ s rr fun x G1 H1 s1 hx=>q' σ G1 H1 _ s1.s (rr.mono s1.g) fun y G2 H2 s2 hy=>?_
 exact h G2 H2 x y Q s2.s (hx.mono s2.g) hy ((k.step (s1.trans s2)).sc s2.s rfl)
theorem jU {op:CmpOp}{r:R2}{c:Bool}(ho:∀ i,cX (F.cx i) (compareOp op) r)(ha:Ev F a ρ ta)(hb:Ev F b ρ tb')(h:∀ G H x y (Q:VK),au G H->Hv F.K G (er ta) x->Hv F.K G (er tb') y->Q (.bl c) H->r x y H Q)(hm:behindInMarks op b=false):Et F (.Compare a [op] [b] pos) ρ c:=by
 obtain⟨τ,p,q⟩:=ha.use;obtain⟨bY,p',q'⟩:=hb.use;refine⟨P4 (iu r τ bY),fun i=>Zj (ho i) (p i) (p' i) hm,fun σ G H Q s rr k=>?_⟩;refine q σ G H _ s rr fun x G1 H1 s1 hx=>q' σ G1 H1 _ s1.s (rr.mono s1.g) fun y G2 H2 s2 hy=>?_
 exact h G2 H2 x y _ s2.s (hx.mono s2.g) hy ⟨c,rfl,k G2 H2 (s1.trans s2)⟩
theorem jW {i j:Int}(ha:Ev F a ρ (ti i))(hb:Ev F b ρ (ti j)):Et F (.Compare a [.Lt] [b] pos) ρ (decide (i<j)):=jU (fun _=>P0) ha hb (fun G H x y Q s hx hy k=>⟨i,j,aO hx,aO hy,k⟩) (iG _)
theorem jX {i j:Int}(ha:Ev F a ρ (ti i))(hb:Ev F b ρ (ti j)):Et F (.Compare a [.Gt] [b] pos) ρ (decide (j<i)):=jU (fun _=>P1) ha hb (fun G H x y Q s hx hy k=>⟨i,j,aO hx,aO hy,k⟩) (iG _)
theorem Qc {i j:Int}(ha:Ev F a ρ (ti i))(hb:Ev F b ρ (ti j)):Et F (.Compare a [.GtE] [b] pos) ρ (decide (j<=i)):=jU (fun _=>P2) ha hb (fun G H x y Q s hx hy k=>⟨i,j,aO hx,aO hy,k⟩) (iG _)
theorem jD {i j:Int}(ha:Ev F a ρ (ti i))(hb:Ev F b ρ (ti j)):Et F (.Compare a [.Eq] [b] pos) ρ (decide (i=j)):=jU (fun _=>D6) ha hb (fun G H x y Q s hx hy k=>by
 rw[aO hx,aO hy];exact⟨rfl,by simpa using k⟩) (iG _)
theorem kM {i j:Int}(ha:Ev F a ρ (ti i))(hb:Ev F b ρ (ti j)):Et F (.Compare a [.NotEq] [b] pos) ρ (!decide (i=j)):=jU (fun _=>abS) ha hb (fun G H x y Q s hx hy k=>by
 rw[aO hx,aO hy];exact⟨rfl,by simpa using k⟩) (iG _)
theorem Ea {i j:Int}(ha:Ev F a ρ (ti i))(hb:Ev F b ρ (ti j)):Ev F (.Compare a [.Lt] [b] pos) ρ (tb (decide (i<j))):=sf (fun _=>P0) ha hb (fun G H x y Q s hx hy k=>⟨i,j,aO hx,aO hy,k⟩) (iG _)
theorem abX {i j:Int}(ha:Ev F a ρ (ti i))(hb:Ev F b ρ (ti j)):Ev F (.Compare a [.LtE] [b] pos) ρ (tb (decide (i<=j))):=sf (fun _=>abT) ha hb (fun G H x y Q s hx hy k=>⟨i,j,aO hx,aO hy,k⟩) (iG _)
theorem Eb {i j:Int}(ha:Ev F a ρ (ti i))(hb:Ev F b ρ (ti j)):Ev F (.Compare a [.Gt] [b] pos) ρ (tb (decide (j<i))):=sf (fun _=>P1) ha hb (fun G H x y Q s hx hy k=>⟨i,j,aO hx,aO hy,k⟩) (iG _)
theorem abY {i j:Int}(ha:Ev F a ρ (ti i))(hb:Ev F b ρ (ti j)):Ev F (.Compare a [.GtE] [b] pos) ρ (tb (decide (j<=i))):=sf (fun _=>P2) ha hb (fun G H x y Q s hx hy k=>⟨i,j,aO hx,aO hy,k⟩) (iG _)
theorem abZ {i j:Int}(ha:Ev F a ρ (ti i))(hb:Ev F b ρ (ti j)):Ev F (.Compare a [.Eq] [b] pos) ρ (tb (decide (i=j))):=sf (fun _=>D6) ha hb (fun G H x y Q s hx hy k=>by
 rw[aO hx,aO hy];exact⟨rfl,by simpa using k⟩) (iG _)
def Dq (d e:Dv):Prop:=(∃ xs ys,d=.lst xs/\e=.lst ys)\/∃ xs ys,d=.tup xs/\e=.tup ys
theorem aaK (ha:Ev F a ρ ta)(hb:Ev F b ρ tb')(hk:Dq (er ta) (er tb'))(hd:fj (er ta)<=50):Et F (.Compare a [.Eq] [b] pos) ρ (cJ (er ta) (er tb')) :=
 jU (r:=uZ F.K false) (fun i=>F.hK i ▸ OQ (F.hr i).units) ha hb (fun G H x y Q s hx hy k=>⟨_,_,hk,hx.mono s,hy.mono s,hd,k⟩) (iG _)
theorem lQ (ha:Ev F a ρ ta)(hb:Ev F b ρ tb')(hk:Dq (er ta) (er tb'))(hd:fj (er ta)<=50):Et F (.Compare a [.NotEq] [b] pos) ρ (!cJ (er ta) (er tb')) :=
 jU (r:=uZ F.K true) (fun i=>F.hK i ▸ aaA (F.hr i).units) ha hb (fun G H x y Q s hx hy k=>⟨_,_,hk,hx.mono s,hy.mono s,hd,k⟩) (iG _)
theorem aaL (ha:Ev F a ρ ta)(hb:Ev F b ρ tb')(hk:Dq (er ta) (er tb'))(hd:fj (er ta)<=50):Ev F (.Compare a [.Eq] [b] pos) ρ (tb (cJ (er ta) (er tb'))) :=
 sf (r:=uZ F.K false) (fun i=>F.hK i ▸ OQ (F.hr i).units) ha hb (fun G H x y Q s hx hy k=>⟨_,_,hk,hx.mono s,hy.mono s,hd,k⟩) (iG _)
theorem lK {K:Frag}{G:Hp}:∀ {ns:LI} {vs:List V},bC K G (ns.map di) vs->vs=ns.map V.int
 |[],_,h=>h
 |_::_,_,⟨x,r,h1,h2,h3⟩=>by subst h1;rw[aO h2,lK h3];rfl
theorem rD {K:Frag}{G:Hp}:∀ {ns:LI},bC K G (ns.map di) (ns.map V.int)
 |[] => rfl
 |_::_=>⟨_,_,rfl,⟨rfl,rfl⟩,rD⟩
theorem MF (n:Int):∀ ns:LI,zc (.int n) (ns.map V.int)=ns.any fun m=>m==n
 |[] => rfl
 |m::ms=>by
  show(dw (.int m) (.int n) || zc (.int n) (ms.map V.int))=_;rw[MF n ms];rfl
theorem L5 (ns:LI):(ns.map V.int).all fE=true:=by rw[ak1];exact LM.mpr fun _ _=>rfl
theorem V7 (n:Int)(ns:LI):(ns.any fun m=>m==n)=ns.contains n:=by
 induction ns with
 |nil=>rfl
 |cons m ms ih=>rw[Pf,ih,akx];congr 1;exact Bool.beq_comm
theorem OU {n:Int}{ns:LI}{neg:Bool}(eb:er tb'=dis ns){G H:Hp}{x y:V}{Q:VK}(s:au G H)(hx:Hv F.K G (er (ti n)) x)(hy:Hv F.K G (er tb') y)(k:Q (.bl (if neg then !ns.contains n else ns.contains n)) H):vE F.K neg x y H Q:=by
 rw[eb]at hy;obtain⟨l,vs,rfl,h1,h2⟩:=hy;have:=lK h2;subst this;rw[aO hx];refine⟨l,_,rfl,.inl (s.seq h1),rfl,L5 ns,?_⟩;rw[MF,V7];exact k
theorem yu {n:Int}{ns:LI}(ha:Ev F a ρ (ti n))(hb:Ev F b ρ tb')(eb:er tb'=dis ns)(hm:behindInMarks .In b=false):Et F (.Compare a [.In] [b] pos) ρ (ns.contains n) :=
 jU (r:=vE F.K false) (fun i=>F.hK i ▸ Xv) ha hb (fun G H x y Q s hx hy k=>OU eb s hx hy k) hm
theorem wX {n:Int}{ns:LI}(ha:Ev F a ρ (ti n))(hb:Ev F b ρ tb')(eb:er tb'=dis ns)(hm:behindInMarks .NotIn b=false):Et F (.Compare a [.NotIn] [b] pos) ρ (!ns.contains n) :=
 jU (r:=vE F.K true) (fun i=>F.hK i ▸ V5) ha hb (fun G H x y Q s hx hy k=>OU eb s hx hy k) hm
theorem eJ {c:Bool}(h:Ev F e ρ (tb c))(he:∀ i whole,isTrue e (F.cx i).env whole=(do let v <- whole;standAt e.pos;holding [v] (truthy v)):=by intro _ _;rfl):Et F e ρ c:=by
 obtain⟨τ,p,q⟩:=h;exact⟨tB τ,fun i=>uC (p i) (he i),fun σ G H Q s r k=>q σ G H _ s r fun v G' H' fq st o w=>⟨c,aO o.2,k G' H' st⟩⟩
def Ew (F:bc ι)(e:Expr)(ρ:En)(b:Bool):Prop:=∃ τ:TT,(∀ i,PW (F.cx i) e τ)/\∀ σ G H Q,au G H->cj F.K G ρ σ->(∀ G' H',Step G H G' H'->Q b H')->τ σ H Q
theorem Ew.et {p:Bool}(h:Ew F e ρ p):Et F e ρ p:=let ⟨τ,a,b⟩:=h;⟨τ,fun i=>(a i).pt,b⟩
theorem MG {X:Cx}:PW X e (fun _ _ _=>False):=fun _ _ _ _ _ _ _ h=>h.elim
theorem rP {p:Bool}(h:Et F a ρ p):Ew F (.BoolOp .And [a] pos) ρ p:=let ⟨τ,x,y⟩:=h;⟨τ,fun i=>xx (x i),y⟩
theorem jV {p:Bool}(h:Et F a ρ p):Ew F (.BoolOp .Or [a] pos) ρ p:=let ⟨τ,x,y⟩:=h;⟨τ,fun i=>OB (x i),y⟩
theorem si {p q:Bool}{rest:List Expr}(h:Et F a ρ p)(h2:p=true->Ew F (.BoolOp .And (b::rest) pos) ρ q):Ew F (.BoolOp .And (a::b::rest) pos) ρ (p&&q):=by
 obtain⟨τ,x,y⟩:=h;cases p with
 |false=>exact⟨EL τ _,fun i=>uD (x i) MG,fun σ G H Q s r k=>y σ G H _ s r fun G' H' st=>eR (k G' H' st)⟩
 |true =>
  obtain⟨bY,x',y'⟩:=h2 rfl;exact⟨EL τ bY,fun i=>uD (x i) (x' i),fun σ G H Q s r k=>y σ G H _ s r fun G1 H1 s1=>gx (y' σ G1 H1 _ s1.s (r.mono s1.g) fun G2 H2 s2=>k G2 H2 (s1.trans s2))⟩
theorem gk {p q:Bool}{rest:List Expr}(h:Et F a ρ p)(h2:p=false->Ew F (.BoolOp .Or (b::rest) pos) ρ q):Ew F (.BoolOp .Or (a::b::rest) pos) ρ (p || q):=by
 obtain⟨τ,x,y⟩:=h;cases p with
 |true=>exact⟨FC τ _,fun i=>D3 (x i) MG,fun σ G H Q s r k=>y σ G H _ s r fun G' H' st=>gx (k G' H' st)⟩
 |false =>
  obtain⟨bY,x',y'⟩:=h2 rfl;exact⟨FC τ bY,fun i=>D3 (x i) (x' i),fun σ G H Q s r k=>y σ G H _ s r fun G1 H1 s1=>eR (y' σ G1 H1 _ s1.s (r.mono s1.g) fun G2 H2 s2=>k G2 H2 (s1.trans s2))⟩
theorem gM {p:Bool}(h:Et F a ρ p):Et F (.UnaryOp .Not a pos) ρ (!p):=by
 obtain⟨τ,x,y⟩:=h;exact⟨QF τ,fun i=>Dh (x i),fun σ G H Q s r k=>y σ G H _ s r k⟩
theorem wY {X:Cx}:PE X e (fun _ _ _=>False):=fun _ _ _ _ _ _ h=>h.elim
theorem uF {op:BoolOp}{t:Tr}(h:Ev F a ρ t):Ev F (.BoolOp op [a] pos) ρ t:=let ⟨τ,x,y⟩:=h;⟨τ,fun i=>aan (x i),y⟩
theorem yc {p q:Bool}{rest:List Expr}(h:Ev F a ρ (tb p))(h2:p=true->Ev F (.BoolOp .And (b::rest) pos) ρ (tb q)):Ev F (.BoolOp .And (a::b::rest) pos) ρ (tb (p&&q)):=by
 obtain⟨τ,x,y⟩:=h.use;cases p with
 |false=>exact⟨D4 τ _,fun i=>OC (x i) wY,fun σ G H Q s r k=>y σ G H _ s r fun v G' H' st hv=>⟨false,aO hv,eR ((k.step st).sc st.s rfl)⟩⟩
 |true =>
  obtain⟨bY,x',y'⟩:=h2 rfl;exact⟨D4 τ bY,fun i=>OC (x i) (x' i),fun σ G H Q s r k=>y σ G H _ s r fun v G1 H1 s1 hv=>⟨true,aO hv,gx (y' σ G1 H1 _ s1.s (r.mono s1.g) (k.step s1))⟩⟩
theorem Qd {p q:Bool}{rest:List Expr}(h:Ev F a ρ (tb p))(h2:p=false->Ev F (.BoolOp .Or (b::rest) pos) ρ (tb q)):Ev F (.BoolOp .Or (a::b::rest) pos) ρ (tb (p || q)):=by
 obtain⟨τ,x,y⟩:=h.use;cases p with
 |true=>exact⟨ER τ _,fun i=>PV (x i) wY,fun σ G H Q s r k=>y σ G H _ s r fun v G' H' st hv=>⟨true,aO hv,gx ((k.step st).sc st.s rfl)⟩⟩
 |false =>
  obtain⟨bY,x',y'⟩:=h2 rfl;exact⟨ER τ bY,fun i=>PV (x i) (x' i),fun σ G H Q s r k=>y σ G H _ s r fun v G1 H1 s1 hv=>⟨false,aO hv,eR (y' σ G1 H1 _ s1.s (r.mono s1.g) (k.step s1))⟩⟩
theorem Dr {p:Bool}(h:Ev F a ρ (tb p)):Ev F (.UnaryOp .Not a pos) ρ (tb (!p)):=by
 obtain⟨τ,x,y⟩:=h.use;exact⟨PU τ,fun i=>aao (x i),fun σ G H Q s r k=>y σ G H _ s r fun v G' H' st hv=>⟨p,aO hv,(k.step st).sc st.s rfl⟩⟩
theorem ab0 {p:Bool}(hc:Et F c ρ p)(h1:p=true->Ev F a ρ t)(h2:p=false->Ev F b ρ t):Ev F (.IfExp c a b pos) ρ t:=by
 obtain⟨τ,x,y⟩:=hc;cases p with
 |true =>
  obtain⟨bY,x',y'⟩:=h1 rfl;exact⟨FD τ bY _,fun i=>Mx (x i) (x' i) wY,fun σ G H Q s r k=>y σ G H _ s r fun G1 H1 s1=>gx (y' σ G1 H1 _ s1.s (r.mono s1.g) (k.step s1))⟩
 |false =>
  obtain⟨bY,x',y'⟩:=h2 rfl;exact⟨FD τ _ bY,fun i=>Mx (x i) wY (x' i),fun σ G H Q s r k=>y σ G H _ s r fun G1 H1 s1=>eR (y' σ G1 H1 _ s1.s (r.mono s1.g) (k.step s1))⟩
theorem fD (h:jt F es ρ ts)(hz:ts.length<=sizeLine):Ev F (.List es pos) ρ (.ow ts):=by
 obtain⟨τ,x,y⟩:=h;refine⟨QJ τ,fun i=>aat (x i),fun σ G H Q s r k=>y σ G H _ s r fun vs G1 H1 fq s1 o w=>⟨by rw[<- o.length];exact hz,fun p hp=>?_⟩⟩;have np:p ∉ fq:=fun z=>by
  obtain⟨u,hu⟩:=o.there p z;rw[hp]at hu;cases hu
 exact k (.ref p) G1 _ (p::fq) (s1.trans (.hW s1.s hp)) ⟨p,vs,fq,rfl,bO,o.mono (au.refl _) (au.new hp),rfl⟩
  ⟨fun a ha=>(gr.mp ha).elim (fun z=>by rw[z];exact s1.h.free hp) (w.n a),fun a ha=>(gr.mp ha).elim (fun z=>by rw[z];exact s1.s.free hp) (w.g a),BB.mpr ⟨np,w.d⟩⟩
theorem Ds {x1}(h:jt F es ρ ts)(hz:ts.length<=sizeLine):Ev F (.Tuple es x1 pos) ρ (.tp ts):=by
 obtain⟨τ,x,y⟩:=h;refine⟨sS τ,fun i=>m8 (x i),fun σ G H Q s r k=>y σ G H _ s r fun vs G1 H1 fq s1 o w=>⟨by rw[<- o.length];exact hz,fun p hp=>?_⟩⟩;have np:p ∉ fq:=fun z=>by
  obtain⟨u,hu⟩:=o.there p z;rw[hp]at hu;cases hu
 exact k (.ref p) G1 _ (p::fq) (s1.trans (.hW s1.s hp)) ⟨p,vs,fq,rfl,bO,o.mono (au.refl _) (au.new hp),rfl⟩
  ⟨fun a ha=>(gr.mp ha).elim (fun z=>by rw[z];exact s1.h.free hp) (w.n a),fun a ha=>(gr.mp ha).elim (fun z=>by rw[z];exact s1.s.free hp) (w.g a),BB.mpr ⟨np,w.d⟩⟩
theorem xG {x1}{dd:List Dv}(h:jt F es ρ ts)(ed:fX ts=dd)(hz:ts.length<=sizeLine):Ev F (.Tuple es x1 pos) ρ (.fz (.tup dd)):=ed ▸ (Ds h hz).fz
theorem bC.get {K:Frag}{G:Hp}:∀ {ds:List Dv} {vs:List V} {j:Nat} {d:Dv},bC K G ds vs->ds[j]?=some d->∃ v,vs[j]?=some v/\Hv K G d v
 |_::_,_,0,_,⟨x,r,h1,h2,h3⟩,h=>by cases h;subst h1;exact⟨x,rfl,h2⟩
 |_::_,_,j+1,d,⟨x,r,h1,h2,h3⟩,h=>by
  subst h1;obtain⟨v,q1,q2⟩:=bC.get (j:=j) h3 h;exact⟨v,q1,q2⟩
theorem bC.at {K:Frag}{G:Hp}{ds:List Dv}{vs:List V}{k:Int}{d:Dv}(h:bC K G ds vs)(hk:bu ds k=some d):∃ v,bu vs k=some v/\Hv K G d v:=by
 unfold bu at hk ⊢;rw[<- h.length];cases q:dv ds.length k with
 |none=>rw[q]at hk;cases hk
 |some j=>rw[q]at hk;exact h.get hk
theorem dU {xs:List Dv}{k:Int}{d:Dv}(ha:Ev F a ρ ta)(hb:Ev F b ρ (ti k))(ea:er ta=.lst xs)(hk:bu xs k=some d)(hs:xB b:=by exact fun _ _=>rfl):Ev F (.Subscript a b pos) ρ (.fz d):=by
 obtain⟨τ,p,q⟩:=ha.use;obtain⟨bY,p',q'⟩:=hb.use;refine⟨iu (uX F.K) τ bY,fun i=>oR (Yj (F.hK i)) (p i) (p' i) hs,fun σ G H Q s rr k=>?_⟩;refine q σ G H _ s rr fun x G1 H1 s1 hx=>q' σ G1 H1 _ s1.s (rr.mono s1.g) fun y G2 H2 s2 hy=>?_
 rw[ea]at hx;obtain⟨l,vs,rfl,h1,h2⟩:=hx;obtain⟨v,h3,h4⟩:=h2.at hk;exact⟨l,vs,_,v,rfl,aO hy,(s2.g.trans s2.s).seq h1,h3,(k.step (s1.trans s2)).dat s2.s (h4.mono s2.g)⟩
theorem aY {xs:List Dv}{k:Int}{d:Dv}(ha:Ev F a ρ ta)(hb:Ev F b ρ (ti k))(ea:er ta=.tup xs)(hk:bu xs k=some d)(hs:xB b:=by exact fun _ _=>rfl):Ev F (.Subscript a b pos) ρ (.fz d):=by
 obtain⟨τ,p,q⟩:=ha.use;obtain⟨bY,p',q'⟩:=hb.use;refine⟨iu (yO F.K) τ bY,fun i=>oR (NK (F.hK i)) (p i) (p' i) hs,fun σ G H Q s rr k=>?_⟩;refine q σ G H _ s rr fun x G1 H1 s1 hx=>q' σ G1 H1 _ s1.s (rr.mono s1.g) fun y G2 H2 s2 hy=>?_
 rw[ea]at hx;obtain⟨l,vs,rfl,h1,h2⟩:=hx;obtain⟨v,h3,h4⟩:=h2.at hk;exact⟨l,vs,_,v,rfl,aO hy,(s2.g.trans s2.s).tup h1,h3,(k.step (s1.trans s2)).dat s2.s (h4.mono s2.g)⟩
theorem mY {id:String}{x:Str}{r:List V->Hp->VK->Prop}(hc:∀ i,eQ (F.cx i) (.builtin id) r)(hm:F.mg x=none)(hv:bootBuiltins x=some (.builtin id))(ha:jt F (e::es) ρ ts)(h:∀ G H xs Q,au G H->bC F.K G (fX ts) xs->Kv F.K G H t Q->r xs H Q){p':Pos}(hg:∀ i,Gl (F.cx i) x:=by intro _;rfl)(hn:x ≠ "__name__" := by decide)(iw:(x==("__debug__" : Str))=false:=by decide)(he:∀ i,starEach (e::es) (F.cx i).env=(false,eval e (F.cx i).env)::starEach es (F.cx i).env:=by intro _;rfl)(gS:∀ i,(backTo pos (starEach es (F.cx i).env)).any (·.1)=false:=by intro _;rfl):Ev F (.Call (.Name x p') (e::es) [] pos) ρ t:=by
 obtain⟨τ,y,z⟩:=ha.use;refine⟨ke r τ,fun i=>om (hc i) (hg i) ((F.hm i).symm ▸ hm) hv (y i) hn iw (he i) (gS i),fun σ G H Q s rr k=>z σ G H _ s rr fun vs G1 H1 s1 hx=>?_⟩;exact h G1 H1 vs Q s1.s hx (k.step s1)
theorem MH {T:String}{x:Str}{r:List V->Hp->VK->Prop}(hc:∀ i,eQ (F.cx i) (.type T) r)(hm:F.mg x=none)(hv:bootBuiltins x=some (.type T))(ha:jt F (e::es) ρ ts)(h:∀ G H xs Q,au G H->bC F.K G (fX ts) xs->Kv F.K G H t Q->r xs H Q){p':Pos}(hg:∀ i,Gl (F.cx i) x:=by intro _;rfl)(hn:x ≠ "__name__" := by decide)(iw:(x==("__debug__" : Str))=false:=by decide)(he:∀ i,starEach (e::es) (F.cx i).env=(false,eval e (F.cx i).env)::starEach es (F.cx i).env:=by intro _;rfl)(gS:∀ i,(backTo pos (starEach es (F.cx i).env)).any (·.1)=false:=by intro _;rfl):Ev F (.Call (.Name x p') (e::es) [] pos) ρ t:=by
 obtain⟨τ,y,z⟩:=ha.use;refine⟨ke r τ,fun i=>wK (hc i) (hg i) ((F.hm i).symm ▸ hm) hv (y i) hn iw (he i) (gS i),fun σ G H Q s rr k=>z σ G H _ s rr fun vs G1 H1 s1 hx=>?_⟩;exact h G1 H1 vs Q s1.s hx (k.step s1)
theorem jh {K:Frag}{G:Hp}{d:Dv}{xs:List V}(h:bC K G [d] xs):∃ x,xs=[x]/\Hv K G d x:=by
 obtain⟨x,r,h1,h2,h3⟩:=h;exact⟨x,by rw[h1,show r=[]from h3],h2⟩
theorem E6 {K:Frag}{G:Hp}{d d':Dv}{xs:List V}(h:bC K G [d,d'] xs):∃ x y,xs=[x,y]/\Hv K G d x/\Hv K G d' y:=by
 obtain⟨x,r,h1,h2,h3⟩:=h;obtain⟨y,rfl,h4⟩:=jh h3;exact⟨x,y,h1,h2,h4⟩
theorem bS {xs:List Dv}(hm:F.mg "len" = none)(ha:Ev F e ρ ta)(ea:er ta=.lst xs\/er ta=.tup xs){p':Pos}(hg:∀ i,Gl (F.cx i) "len" := by intro _;rfl)(hs:∀ i,starEach [e] (F.cx i).env=[(false,eval e (F.cx i).env)]:=by intro _;rfl):Ev F (.Call (.Name "len" p') [e] [] pos) ρ (ti xs.length) :=
 mY (r:=fun xs H Q=>∃ p ys,xs=[.ref p]/\(aL F.K H p ys\/cW F.K H p ys)/\Q (.int ys.length) H) (fun i=>XA (F.hK i)) hm Dp (aj ha aw hs) (fun G H vs Q s hx k=>by
  obtain⟨x,rfl,fY⟩:=jh hx
  replace hx:=fY
  rcases ea with ea | ea
  ·rw[ea]at hx;obtain⟨l,ys,rfl,h1,h2⟩:=hx;exact⟨l,ys,rfl,.inl (s.seq h1),by rw[<- h2.length];exact k.sc s rfl⟩
  ·rw[ea]at hx;obtain⟨l,ys,rfl,h1,h2⟩:=hx;exact⟨l,ys,rfl,.inr (s.tup h1),by rw[<- h2.length];exact k.sc s rfl⟩) hg (by decide) (by decide) hs (fun _=>rfl)
theorem oE {xs:List Dv}(hm:F.mg "list" = none)(ha:Ev F e ρ ta)(ea:er ta=.lst xs\/er ta=.tup xs){p':Pos}(hg:∀ i,Gl (F.cx i) "list" := by intro _;rfl)(hs:∀ i,starEach [e] (F.cx i).env=[(false,eval e (F.cx i).env)]:=by intro _;rfl):Ev F (.Call (.Name "list" p') [e] [] pos) ρ (.ow (xs.map .fz)) :=
 MH (r:=fun xs H Q=>∃ p ys,xs=[.ref p]/\(aL F.K H p ys\/cW F.K H p ys)/\∀ l,H l=none->Q (.ref l) (upd H l (.lst ys))) (fun i=>F.hK i ▸ Lg) hm rO (aj ha aw hs) (fun G H vs Q s hx k=>by
  obtain⟨x,rfl,fY⟩:=jh hx
  replace hx:=fY
  rcases ea with ea | ea
  ·rw[ea]at hx;obtain⟨l,ys,rfl,h1,h2⟩:=hx;exact⟨l,ys,rfl,.inl (s.seq h1),fun p hp=>k.lst s h2.jK hp⟩
  ·rw[ea]at hx;obtain⟨l,ys,rfl,h1,h2⟩:=hx;exact⟨l,ys,rfl,.inr (s.tup h1),fun p hp=>k.lst s h2.jK hp⟩) hg (by decide) (by decide) hs (fun _=>rfl)
theorem Dt {ns:LI}(hm:F.mg "sum" = none)(ha:Ev F e ρ ta)(ea:er ta=dis ns){p':Pos}(hg:∀ i,Gl (F.cx i) "sum" := by intro _;rfl)(hs:∀ i,starEach [e] (F.cx i).env=[(false,eval e (F.cx i).env)]:=by intro _;rfl):Ev F (.Call (.Name "sum" p') [e] [] pos) ρ (ti ns.sum) :=
 mY (r:=QM F.K) (fun i=>F.hK i ▸ Yh (F.calm i)) hm aaC (aj ha aw hs) (fun G H vs Q s hx k=>by
  obtain⟨x,rfl,fY⟩:=jh hx
  replace hx:=fY
  rw[ea]at hx;obtain⟨l,ys,rfl,h1,h2⟩:=hx;have:=lK h2;subst this;exact⟨l,ns,rfl,s.seq h1,k.sc s rfl⟩) hg (by decide) (by decide) hs (fun _=>rfl)
theorem OV {n:Int}(hm:F.mg "abs" = none)(ha:Ev F e ρ (ti n)){p':Pos}(hg:∀ i,Gl (F.cx i) "abs" := by intro _;rfl)(hs:∀ i,starEach [e] (F.cx i).env=[(false,eval e (F.cx i).env)]:=by intro _;rfl):Ev F (.Call (.Name "abs" p') [e] [] pos) ρ (ti (if n<0 then -n else n)) :=
 mY (fun i=>Yc) hm aaB (aj ha aw hs) (fun G H vs Q s hx k=>by
  obtain⟨x,rfl,fY⟩:=jh hx
  replace hx:=fY
  exact⟨n,by rw[aO hx],k.sc s rfl⟩) hg (by decide) (by decide) hs (fun _=>rfl)
def Sy:Dv->Value
 | .fl .aH=>.type "NoneType"
 | .fl (.bl _)=>.type "bool"
 | .fl (.int _)=>.type "int"
 | .fl (.str _)=>.type "str"
 | .fl _=>.none
 | .lst _=>.type "list"
 | .tup _=>.type "tuple"
def QO (K:Frag)(d:Dv)(n:String)(b:Bool):List V->Hp->VK->Prop:=fun xs H Q=>∃ x,xs=[x,.ty n]/\Hv K H d x/\PySem.W.kitOne K (Sy d) (.type n)=some b/\Q (.bl b) H
theorem Yl {X:Cx}{d:Dv}{n:String}{b:Bool}:eQ X (.builtin "isinstance") (QO X.K d n b):=by
 intro pins s σ H xs us Q I r h;obtain⟨x,rfl,hx,hb,q⟩:=h;cases r with
 |cons r1 rr=>cases rr with
  |cons r2 rr =>
   cases rr
   cases (show _=Value.type n from r2)
   have fin:∀ tk,EP X pins σ Q (.bool b) { s with toks:=tk }:=fun tk=>⟨.bl b,H,I.tok tk,rfl,q⟩
   cases d with
   |fl v =>
    obtain⟨rfl,f⟩:=hx;cases x with
    |aH=>exact wJ I r1 .aH hb fin
    |bl y=>exact wJ I r1 (.bl y) hb fin
    |int y=>exact wJ I r1 (.int y) hb fin
    |str y=>exact wJ I r1 (.str y) hb fin
    |jm y=>cases f
    |nJ y=>cases f
    |ref y=>cases f
    |ty y=>cases f
   |lst ds =>
    obtain⟨a,xs,rfl,h1,_⟩:=hx;cases r1;obtain⟨its,_,⟨o,n,h2,h3,_⟩,_⟩:=I.list h1;exact akc akM I.fG ⟨o,h2,h3⟩ hb (fun z=>nomatch z) fin
   |tup ds =>
    obtain⟨a,xs,rfl,h1,_⟩:=hx;cases r1;obtain⟨its,_,⟨o,h2,h3,_⟩,_⟩:=I.tuple h1;exact akc PySem.W.kitx_tuple I.fG ⟨o,h2,h3⟩ hb (fun z=>nomatch z) fin
theorem lR {x:Str}{n:String}{bo:Bool}(hm:F.mg "isinstance" = none)(ju:F.mg x=none)(hv:bootBuiltins x=some (.type n))(ha:Ev F e ρ ta)(hk:PySem.W.kitOne F.K (Sy (er ta)) (.type n)=some bo){p' p2:Pos}(hg:∀ i,Gl (F.cx i) "isinstance" := by intro _;rfl)(vK:∀ i,Gl (F.cx i) x:=by intro _;rfl)(hn:x ≠ "__name__" := by decide)(hd:(x==("__debug__" : Str))=false:=by decide)(hs:∀ i,starEach [e,.Name x p2] (F.cx i).env=[(false,eval e (F.cx i).env),(false,eval (.Name x p2) (F.cx i).env)]:=by intro _;rfl):Ev F (.Call (.Name "isinstance" p') [e,.Name x p2] [] pos) ρ (tb bo):=by
 obtain⟨τ,y,z⟩:=ha.use;refine⟨ke (QO F.K (er ta) n bo) (dc τ (dc (tC (.ty n)) dO)),fun i=>om (F.hK i ▸ Yl) (hg i) ((F.hm i).symm ▸ hm) VD (aX (y i) (aX (Zh (v:=.ty n) (vK i) ((F.hm i).symm ▸ ju) hv rfl hn hd) cu rfl) (hs i)) (by decide) (by decide) (hs i) rfl,fun σ G H Q s rr k=>z σ G H _ s rr fun vs G1 H1 s1 hx=>?_⟩;exact⟨vs,rfl,hx.mono s1.s,hk,(k.step s1).sc s1.s rfl⟩
def spT (K:Frag)(R:List Dv->Tr->Prop):Sp:=fun vs H Q _=>∃ G ds t,au G H/\bC K G ds vs/\R ds t/\Kv K G H t Q
theorem aG {k:Nat}{f:Addr}{fd:FuncData}{ps:List Str}{R:List Dv->Tr->Prop}{x:Str}(Fn:Kn F.P F.w F.K F.mg F.base ak k x f fd ps (spT F.K R))(hk:k<=F.room)(ha:jt F (e::es) ρ ts)(hR:R (fX ts) t){p':Pos}(hg:∀ i,Gl (F.cx i) x:=by intro _;rfl)(iw:(x==("__debug__" : Str))=false:=by decide)(he:∀ i,starEach (e::es) (F.cx i).env=(false,eval e (F.cx i).env)::starEach es (F.cx i).env:=by intro _;rfl)(gS:∀ i,(backTo pos (starEach es (F.cx i).env)).any (·.1)=false:=by intro _;rfl):Ev F (.Call (.Name x p') (e::es) [] pos) ρ t:=by
 obtain⟨τ,y,z⟩:=ha.use;refine⟨sD (spT F.K R) [] E0 τ,fun i=>?_,fun σ G H Q s rr k=>z σ G H _ s rr fun vs G1 H1 s1 hx=>?_⟩
 ·have vL:Kn (F.cx i).prog (F.cx i).w (F.cx i).K (F.cx i).mg (F.cx i).base ak k x f fd ps (spT F.K R):=by
   rw[F.hP i,F.hw i,F.hK i,F.hm i,F.hb i];exact Fn
  exact sI vL ((F.hr i).mono hk) (hg i) (y i) iw (he i) (gS i)
 ·show spT F.K R (vs++[]) H1 Q E0;rw[FF];exact⟨G1,_,t,s1.s,hx,hR,k.step s1⟩
end
def aK (K:Frag)(G H:Hp):En->St->List Addr->Prop
 |[],σ,fp=>σ=[]/\fp=[]
 |none::ρ,σ,fp=>∃ o r,σ=o::r/\aK K G H ρ r fp
 |some t::ρ,σ,fp=>∃ v r f1 f2,σ=some v::r/\fp=f1++f2/\Ow K G H t v f1/\aK K G H ρ r f2
theorem aK.mono {K:Frag}{G G' H H':Hp}(e:au G G')(e':au H H'):∀ {ρ:En} {σ:St} {fp:List Addr},aK K G H ρ σ fp->aK K G' H' ρ σ fp
 |[],_,_,h=>h
 |none::_,_,_,⟨o,r,h1,h2⟩=>⟨o,r,h1,aK.mono e e' h2⟩
 |some _::_,_,_,⟨v,r,f1,f2,h1,h2,h3,h4⟩=>⟨v,r,f1,f2,h1,h2,h3.mono e e',aK.mono e e' h4⟩
theorem aK.frame {K:Frag}{G H:Hp}{a:Addr}{o:HO}:∀ {ρ:En} {σ:St} {fp:List Addr},aK K G H ρ σ fp->a ∉ fp->aK K G (upd H a o) ρ σ fp
 |[],_,_,h,_=>h
 |none::_,_,_,⟨o,r,h1,h2⟩,n=>⟨o,r,h1,aK.frame h2 n⟩
 |some _::_,_,_,⟨v,r,f1,f2,h1,h2,h3,h4⟩,n=>by
  subst h2;exact⟨v,r,f1,f2,h1,rfl,h3.frame fun z=>n (nv _ z),aK.frame h4 fun z=>n (ij _ z)⟩
theorem aK.there {K:Frag}{G H:Hp}:∀ {ρ:En} {σ:St} {fp:List Addr},aK K G H ρ σ fp->∀ a ∈ fp,∃ o,H a=some o
 |[],_,_,⟨_,h⟩,a,ha=>by subst h;cases ha
 |none::_,_,_,⟨o,r,h1,h2⟩,a,ha=>aK.there h2 a ha
 |some _::_,_,_,⟨v,r,f1,f2,h1,h2,h3,h4⟩,a,ha=>by
  subst h2;rcases wb.mp ha with ha | ha
  ·exact h3.there a ha
  ·exact aK.there h4 a ha
theorem aK.off {K:Frag}{G H G1 H1:Hp}{ρ:En}{σ:St}{fp:List Addr}(r:aK K G H ρ σ fp)(s1:Step G H G1 H1)(g:∀ a ∈ fp,G a=none):∀ a ∈ fp,G1 a=none:=fun a ha=>by
 cases q:G1 a with
 |none=>rfl
 |some u =>
  obtain⟨u',bh⟩:=r.there a ha;have:=s1.n a (g a ha) (by rw[q];exact fun z=>nomatch z);rw[bh]at this;cases this
theorem aK.gG {K:Frag}{G H:Hp}:∀ {ρ:En} {σ:St} {fp:List Addr},aK K G H ρ σ fp->cj K G ρ σ
 |[],_,_,_,j,d,h=>by cases j<;>cases h
 |none::_,_,_,⟨o,r,h1,h2⟩,0,d,h=>by cases h
 |none::_,_,_,⟨o,r,h1,h2⟩,j+1,d,h=>by subst h1;exact aK.gG h2 j d h
 |some _::_,_,_,⟨v,r,f1,f2,h1,h2,h3,h4⟩,0,d,h=>by cases h;subst h1;exact⟨v,rfl,h3.2⟩
 |some _::_,_,_,⟨v,r,f1,f2,h1,h2,h3,h4⟩,j+1,d,h=>by subst h1;exact aK.gG h4 j d h
def pk (ρ:En):En:=ρ.map (Option.map fun t=>.fz (er t))
theorem aK.pk {K:Frag}{G H G':Hp}(e:au G G'):∀ {ρ:En} {σ:St} {fp:List Addr},aK K G H ρ σ fp->(∀ a ∈ fp,G' a=H a)->cj K G' (pk ρ) σ
 |[],_,_,_,_,j,d,h=>by cases j<;>cases h
 |none::_,_,_,⟨o,r,h1,h2⟩,_,0,d,h=>by cases h
 |none::_,_,_,⟨o,r,h1,h2⟩,q,j+1,d,h=>by subst h1;exact aK.pk e h2 q j d h
 |some _::_,_,_,⟨v,r,f1,f2,h1,h2,h3,h4⟩,q,0,d,h=>by
  cases h;subst h1 h2;exact⟨v,rfl,h3.hv e fun a ha=>q a (nv _ ha)⟩
 |some _::_,_,_,⟨v,r,f1,f2,h1,h2,h3,h4⟩,q,j+1,d,h=>by
  subst h1 h2;exact aK.pk e h4 (fun a ha=>q a (ij _ ha)) j d h
theorem aK.split {K:Frag}{G H:Hp}:∀ {ρ:En} {σ:St} {fp:List Addr} {j:Nat} {t:Tr},aK K G H ρ σ fp->ρ[j]?=some (some t) ->
  ∃ v f fr,σ[j]?=some (some v)/\Ow K G H t v f/\aK K G H (ρ.set j none) σ fr/\fp.Perm (f++fr)
 |none::_,_,_,0,_,_,h=>by cases h
 |none::_,_,_,j+1,t,⟨o,r,h1,h2⟩,h=>by
  subst h1;obtain⟨v,f,fr,q1,q2,q3,q4⟩:=aK.split (j:=j) h2 h;exact⟨v,f,fr,q1,q2,⟨o,r,rfl,q3⟩,q4⟩
 |some _::_,_,_,0,t,⟨v,r,f1,f2,h1,h2,h3,h4⟩,h=>by
  cases h;subst h1 h2
  exact⟨v,f1,f2,rfl,h3,⟨some v,r,rfl,h4⟩,.refl _⟩
 |some _::_,_,_,j+1,t,⟨v,r,f1,f2,h1,h2,h3,h4⟩,h=>by
  subst h1 h2;obtain⟨v',f,fr,q1,q2,q3,q4⟩:=aK.split (j:=j) h4 h;refine⟨v',f,f1++fr,q1,q2,⟨v,r,f1,fr,rfl,rfl,h3,q3⟩,?_⟩;refine(ajh f1 q4).trans ?_;rw[<- ID,<- ID];exact ajU fr aj3
theorem aK.forget {K:Frag}{G H:Hp}:∀ {ρ:En} {σ:St} {fp:List Addr} (j:Nat),aK K G H ρ σ fp->∃ fr,aK K G H (ρ.set j none) σ fr/\fr.Sublist fp
 |[],_,_,_,h=>⟨_,h,.refl _⟩
 |none::_,_,_,0,⟨o,r,h1,h2⟩=>⟨_,⟨o,r,h1,h2⟩,.refl _⟩
 |none::_,_,_,j+1,⟨o,r,h1,h2⟩=>by
  obtain⟨fr,q1,q2⟩:=aK.forget j h2;exact⟨fr,⟨o,r,h1,q1⟩,q2⟩
 |some _::_,_,_,0,⟨v,r,f1,f2,h1,h2,h3,h4⟩=>⟨f2,⟨some v,r,h1,h4⟩,h2 ▸ List.sublist_append_right _ _⟩
 |some _::_,_,_,j+1,⟨v,r,f1,f2,h1,h2,h3,h4⟩=>by
  obtain⟨fr,q1,q2⟩:=aK.forget j h4;exact⟨f1++fr,⟨v,r,f1,fr,h1,rfl,h3,q1⟩,h2 ▸ List.Sublist.append (.refl _) q2⟩
theorem aK.put {K:Frag}{G H:Hp}:∀ {ρ:En} {σ:St} {fr:List Addr} {j:Nat} {t:Tr} {v:V} {f:List Addr},aK K G H ρ σ fr->ρ[j]?=some none->Ow K G H t v f ->
  ∃ fp,aK K G H (ρ.set j (some t)) (σ.set j (some v)) fp/\fp.Perm (f++fr)
 |none::_,_,fr,0,t,v,f,⟨o,r,h1,h2⟩,_,w=>by subst h1;exact⟨_,⟨v,r,f,fr,rfl,rfl,w,h2⟩,.refl _⟩
 |none::_,_,_,j+1,t,v,f,⟨o,r,h1,h2⟩,h,w=>by
  subst h1;obtain⟨fp,q1,q2⟩:=aK.put (j:=j) h2 h w;exact⟨fp,⟨o,_,rfl,q1⟩,q2⟩
 |some _::_,_,_,0,_,_,_,_,h,_=>by cases h
 |some _::_,_,_,j+1,t,v,f,⟨v',r,f1,f2,h1,h2,h3,h4⟩,h,w=>by
  subst h1 h2;obtain⟨fp,q1,q2⟩:=aK.put (j:=j) h4 h w;refine⟨f1++fp,⟨v',_,f1,fp,rfl,rfl,h3,q1⟩,?_⟩;refine(ajh f1 q2).trans ?_;rw[<- ID,<- ID];exact ajU f2 aj3
theorem aK.len {K:Frag}{G H:Hp}:∀ {ρ:En} {σ:St} {fp:List Addr},aK K G H ρ σ fp->ρ.length=σ.length
 |[],_,_,⟨h,_⟩=>by rw[h];rfl
 |none::_,_,_,⟨o,r,h1,h2⟩=>by subst h1;rw[AN,AN,aK.len h2]
 |some _::_,_,_,⟨v,r,f1,f2,h1,h2,h3,h4⟩=>by subst h1;rw[AN,AN,aK.len h4]
structure dz (K:Frag) (G0 H0 G H:Hp) (ρ:En) (σ:St) (fp:List Addr):Prop where
 st:Step G0 H0 G H
 own:aK K G H ρ σ fp
 g:∀ a ∈ fp,G a=none
 n:∀ a ∈ fp,H0 a=none
 d:fp.Nodup
def RS (K:Frag)(G0 H0 G H:Hp)(ρ:En)(σ:St):Prop:=∃ fp,dz K G0 H0 G H ρ σ fp
theorem qH {α:Type}{ρ:List (Option α)}{j:Nat}(h:j < ρ.length):(ρ.set j none)[j]?=some none:=by rw[Lu];simp[h]
theorem dz.forget {K:Frag}{G0 H0 G H:Hp}{ρ:En}{σ:St}{fp:List Addr}(r:dz K G0 H0 G H ρ σ fp)(j:Nat):∃ fr,dz K G0 H0 G H (ρ.set j none) σ fr/\fr.Sublist fp:=by
 obtain⟨fr,q1,q2⟩:=r.own.forget j;exact⟨fr,⟨r.st,q1,fun a ha=>r.g a (q2.subset ha),fun a ha=>r.n a (q2.subset ha),r.d.sublist q2⟩,q2⟩
theorem RS.forget {K:Frag}{G0 H0 G H:Hp}{ρ:En}{σ:St}(r:RS K G0 H0 G H ρ σ)(j:Nat):RS K G0 H0 G H (ρ.set j none) σ:=by
 obtain⟨fp,r⟩:=r;obtain⟨fr,q,_⟩:=r.forget j;exact⟨fr,q⟩
theorem dz.set {K:Frag}{G0 H0 G H G1 H1:Hp}{ρ:En}{σ:St}{fp fq:List Addr}{j:Nat}{t:Tr}{v:V}(r:dz K G0 H0 G H ρ σ fp)(hj:j < ρ.length)(e:Step G H G1 H1)(o:Ow K G1 H1 t v fq)(w:Nw H G1 fq) :
  RS K G0 H0 G1 H1 (ρ.set j (some t)) (σ.set j (some v)):=by
 obtain⟨fr,r1,sub⟩:=r.forget j;have acG:=r1.own.mono e.g e.h;obtain⟨dC,q1,q2⟩:=acG.put (qH hj) o;rw[WA]at q1;have dis:∀ a ∈ fq,∀ b ∈ fr,a ≠ b:=fun a ha b hb z=>by
  subst z;obtain⟨u,hu⟩:=r1.own.there a hb;rw[w.n a ha]at hu;cases hu
 refine⟨dC,r.st.trans e,q1,fun a ha=>?_,fun a ha=>?_,q2.nodup_iff.mpr (r8.mpr ⟨w.d,r1.d,dis⟩)⟩
 ·rcases wb.mp (q2.mem_iff.mp ha)with z | z
  ·exact w.g a z
  ·cases q:G1 a with
   |none=>rfl
   |some u =>
    obtain⟨u',bh⟩:=r1.own.there a z;have:=e.n a (r1.g a z) (by rw[q];exact fun z=>nomatch z);rw[bh]at this;cases this
 ·rcases wb.mp (q2.mem_iff.mp ha)with z | z
  ·exact r.st.h.free (w.n a z)
  ·exact r1.n a z
def less (H:Hp)(fp:List Addr):Hp:=fun a=>if a ∈ fp then none else H a
theorem xH {H:Hp}{fp:List Addr}{a:Addr}(h:a ∈ fp):less H fp a=none:=by unfold less;rw[lp h]
theorem rE {H:Hp}{fp:List Addr}{a:Addr}(h:a ∉ fp):less H fp a=H a:=by unfold less;rw[mf h]
theorem MI {H:Hp}{fp:List Addr}:au (less H fp) H:=fun b o e=>by
 by_cases q:b ∈ fp
 ·rw[xH q]at e;cases e
 ·rw[rE q]at e;exact e
theorem L6 {G H:Hp}{fp:List Addr}(s:au G H)(h:∀ a ∈ fp,G a=none):au G (less H fp):=fun b o e=>by
 by_cases q:b ∈ fp
 ·rw[h b q]at e;cases e
 ·rw[rE q];exact s b o e
theorem dz.rebase {K:Frag}{G0 H0 G H:Hp}{ρ:En}{σ:St}{fp:List Addr}(r:dz K G0 H0 G H ρ σ fp):dz K G (less H fp) G H ρ σ fp :=
 ⟨⟨au.refl _,MI,r.st.s,fun a h h'=>absurd h h'⟩,r.own,r.g,fun a ha=>xH ha,r.d⟩
theorem dz.base {K:Frag}{G0 H0 G H:Hp}{ρ:En}{σ:St}{fp:List Addr}(r:dz K G0 H0 G H ρ σ fp):Step G0 H0 G (less H fp) :=
 ⟨r.st.g,L6 r.st.h r.n,L6 r.st.s r.g,r.st.n⟩
theorem RS.under {K:Frag}{G0 H0 G1 H1 G H:Hp}{ρ:En}{σ:St}(e:Step G0 H0 G1 H1)(r:RS K G1 H1 G H ρ σ):RS K G0 H0 G H ρ σ:=by
 obtain⟨fp,r⟩:=r;exact⟨fp,e.trans r.st,r.own,r.g,fun a ha=>e.h.free (r.n a ha),r.d⟩
inductive Out where
 |nx (ρ:En)
 |rt (t:Tr)
def yS (K:Frag)(G0 H0:Hp)(D:Ends):Out->Prop
 | .nx ρ => ∀ σ G H,RS K G0 H0 G H ρ σ->D.nx σ H
 | .rt t=>∀ v G H fq,Step G0 H0 G H->Ow K G H t v fq->Nw H0 G fq->D.rt v H
theorem yS.under {K:Frag}{G0 H0 G1 H1:Hp}{D:Ends}{o:Out}(e:Step G0 H0 G1 H1)(p:yS K G0 H0 D o):yS K G1 H1 D o:=by
 cases o with
 |nx ρ => exact fun σ G H r=>p σ G H (r.under e)
 |rt t=>exact fun v G H fq s o w=>p v G H fq (e.trans s) o ⟨fun a ha=>e.h.free (w.n a ha),w.g,w.d⟩
def Sz (K:Frag)(τ:TS)(ρ:En)(o:Out):Prop:=∀ D σ G0 H0 G H,RS K G0 H0 G H ρ σ->yS K G0 H0 D o->τ D σ H
section
variable {ι:Type}
def Rn (F:bc ι)(st:Stmt)(ρ:En)(o:Out):Prop:=∃ τ:TS,(∀ i,PS (F.cx i) st τ)/\Sz F.K τ ρ o
def bw (F:bc ι)(cB:List Stmt)(ρ:En)(o:Out):Prop:=∃ τ:TS,(∀ i,fU (F.cx i) cB τ)/\Sz F.K τ ρ o
def bx (F:bc ι)(e:Expr)(ρ:En)(t:Tr):Prop:=∃ τ:TE,(∀ i,PE (F.cx i) e τ)/\∀ σ G H fp Q,au G H->aK F.K G H ρ σ fp->(∀ a ∈ fp,G a=none)->Kv F.K G H t Q->τ σ H Q
def cK (F:bc ι)(e:Expr)(ρ:En)(b:Bool):Prop:=∃ τ:TT,(∀ i,PT (F.cx i) e τ)/\∀ σ G H fp Q,au G H->aK F.K G H ρ σ fp->(∀ a ∈ fp,G a=none)->(∀ G' H',Step G H G' H'->Q b H')->τ σ H Q
variable {F:bc ι}{e a b c:Expr}{es:List Expr}{ρ ρ1:En}{t:Tr}{ts:List Tr}{pos:Pos}{o:Out}{st:Stmt}{cB A B:List Stmt}
theorem Ev.s (h:Ev F e ρ t):bx F e ρ t:=let ⟨τ,x,y⟩:=h;⟨τ,x,fun σ G H fp Q s r _ k=>y σ G H Q s r.gG k⟩
theorem Et.s {p:Bool}(h:Et F e ρ p):cK F e ρ p:=let ⟨τ,x,y⟩:=h;⟨τ,x,fun σ G H fp Q s r _ k=>y σ G H Q s r.gG k⟩
mutual
def Cl:Tr->Prop
 | .fz (.fl _)=>True
 | .fz _=>False
 | .ow ts=>oX ts
 | .tp ts=>oX ts
def oX:List Tr->Prop
 |[] => True
 |t::ts=>Cl t/\oX ts
end
mutual
theorem Ow.cl {K:Frag}{G G' H:Hp}:∀ {t:Tr} {v:V} {fp:List Addr},Cl t->Ow K G H t v fp->Ow K G' H t v fp
 | .fz (.fl _),_,_,_,h=>h
 | .fz (.lst _),_,_,c,_=>c.elim
 | .fz (.tup _),_,_,c,_=>c.elim
 | .ow _,_,_,c,⟨b,vs,fq,h1,h2,h3,h4⟩=>⟨b,vs,fq,h1,h2,aE.cl c h3,h4⟩
 | .tp _,_,_,c,⟨b,vs,fq,h1,h2,h3,h4⟩=>⟨b,vs,fq,h1,h2,aE.cl c h3,h4⟩
theorem aE.cl {K:Frag}{G G' H:Hp}:∀ {ts:List Tr} {vs:List V} {fp:List Addr},oX ts->aE K G H ts vs fp->aE K G' H ts vs fp
 |[],_,_,_,h=>h
 |_::_,_,_,⟨c1,c2⟩,⟨v,r,f1,f2,h1,h2,h3,h4⟩=>⟨v,r,f1,f2,h1,h2,h3.cl c1,aE.cl c2 h4⟩
end
theorem rQ:∀ ns:LI,oX (ns.map fun n=>Tr.fz (di n))
 |[] => True.intro
 |_::ns=>⟨True.intro,rQ ns⟩
theorem Ev.pk (h:Ev F e (pk ρ) t)(c:Cl t):bx F e ρ t:=by
 obtain⟨τ,x,y⟩:=h;refine⟨τ,x,fun σ G H fp Q s r hg k=>?_⟩;refine y σ (eu G H fp) H Q (ou s) (r.pk (jy hg) fun a ha=>iX ha) fun v G' H' fq st o w=>?_
 refine k v G H' fq ⟨au.refl _,st.h,s.trans st.h,fun a h h'=>absurd h h'⟩ (o.cl c) ⟨w.n,fun a ha=>s.free (w.n a ha),w.d⟩
theorem Et.pk {p:Bool}(h:Et F e (pk ρ) p):cK F e ρ p:=by
 obtain⟨τ,x,y⟩:=h;refine⟨τ,x,fun σ G H fp Q s r hg k=>?_⟩;refine y σ (eu G H fp) H Q (ou s) (r.pk (jy hg) fun a ha=>iX ha) fun G' H' st=>?_
 exact k G H' ⟨au.refl _,st.h,s.trans st.h,fun a h h'=>absurd h h'⟩
theorem uo:bw F [] ρ (.nx ρ):=⟨PX,fun _=>oA,fun D σ G0 H0 G H r k=>k σ G H r⟩
theorem ax (h1:Rn F st ρ (.nx ρ1))(h2:bw F cB ρ1 o):bw F (st::cB) ρ o:=by
 obtain⟨τ,x,y⟩:=h1;obtain⟨bY,x',y'⟩:=h2;exact⟨je τ bY,fun i=>eY (x i) (x' i),fun D σ G0 H0 G H r k=>y _ σ G0 H0 G H r fun aN G1 H1 r1=>y' D aN G0 H0 G1 H1 r1 k⟩
theorem xI (h1:Rn F st ρ (.rt t)):bw F (st::cB) ρ (.rt t):=by
 obtain⟨τ,x,y⟩:=h1;exact⟨je τ x6,fun i=>eY (x i) BC,fun D σ G0 H0 G H r k=>y _ σ G0 H0 G H r k⟩
theorem aF (h1:Rn F st ρ o):bw F [st] ρ o:=by
 obtain⟨τ,x,y⟩:=h1;exact⟨τ,fun i=>fB (x i),y⟩
theorem aP (j:Nat){x:Str}{pos':Pos}(he:bx F e ρ t)(hN:∀ i,(F.cx i).N.Nodup)(hj:Nat.blt j ρ.length=true:=by rfl)(hi:∀ i,(F.cx i).N[j]?=some x:=by intro _;rfl)(hx:∀ i,Loc (F.cx i).env.scope x:=by intro _;first | exact Or.inl rfl | exact Or.inr rfl)(hs:∀ i,swapsWith e (some (.Name x pos')) pos.line (F.cx i).env=pure false:=by intro _;rfl)(hf:∀ i,(F.cx i).fn x=true\/(F.cx i).env.scope.names.lookup x=some .local:=by intro _;first | exact .inl rfl | exact .inr rfl) :
  Rn F (.Assign [.Name x pos'] e pos) ρ (.nx (ρ.set j (some t))):=by
 obtain⟨τ,y,z⟩:=he;refine⟨j5 τ (cO j),fun i=>oK (hN i) (hi i) (hx i) (y i) (hs i) (hf i),fun D σ G0 H0 G H r k=>?_⟩;obtain⟨fp,r⟩:=r;exact z σ G H fp _ r.st.s r.own r.g fun v G1 H1 fq s1 o w=>k _ G1 H1 (r.set (Po hj) s1 o w)
theorem bL (he:bx F e ρ t):Rn F (.Return (some e) pos) ρ (.rt t):=by
 obtain⟨τ,y,z⟩:=he;refine⟨yI τ,fun i=>jT (y i),fun D σ G0 H0 G H r k=>?_⟩;obtain⟨fp,r⟩:=r;exact z σ G H fp _ r.st.s r.own r.g fun v G1 H1 fq s1 o w=>k v G1 H1 fq (r.st.trans s1) o ⟨fun a ha=>r.st.h.free (w.n a ha),w.g,w.d⟩
theorem oG (j:Nat){x:Str}{p':Pos}(h : ρ[j]?=some (some t))(hN:∀ i,(F.cx i).N[j]?=some x:=by intro _;rfl)(hv:∀ i,jI (F.cx i).env.scope x:=by intro _;first | exact Or.inl rfl | exact Or.inr (Or.inl rfl) | exact Or.inr (Or.inr rfl))(hd:(x==("__debug__" : Str))=false:=by decide)(hc:(x==("__classdict__" : Str))=false:=by decide):Rn F (.Return (some (.Name x p')) pos) ρ (.rt t):=by
 refine⟨yI (bU j),fun i=>jT (m4 (hN i) (hv i) hd hc),fun D σ G0 H0 G H r k=>?_⟩;obtain⟨fp,r⟩:=r;obtain⟨v,f,fr,q1,q2,q3,q4⟩:=r.own.split h;have sub:∀ a ∈ f,a ∈ fp:=fun a ha=>q4.mem_iff.mpr (nv _ ha)
 exact⟨v,q1,k v G H f r.st q2 ⟨fun a ha=>r.n a (sub a ha),fun a ha=>r.g a (sub a ha),(r8.mp (q4.nodup_iff.mp r.d)).1⟩⟩
theorem Zv (he:bx F e ρ t)(hs:∀ i,swapsWith e none pos.line (F.cx i).env=pure false:=by intro _;rfl):Rn F (.Expr e pos) ρ (.nx ρ):=by
 obtain⟨τ,y,z⟩:=he;refine⟨sA τ,fun i=>ug (y i) (hs i),fun D σ G0 H0 G H r k=>?_⟩;obtain⟨fp,r⟩:=r;refine z σ G H fp _ r.st.s r.own r.g fun v G1 H1 fq s1 o w=>k σ G1 H1 ⟨fp,r.st.trans s1,r.own.mono s1.g s1.h,r.own.off s1 r.g,r.n,r.d⟩
theorem yv {p:Bool}(hc:cK F c ρ p)(h1:p=true->bw F A ρ o)(h2:p=false->bw F B ρ o):Rn F (.If c A B pos) ρ o:=by
 obtain⟨τ,y,z⟩:=hc;have key:∀ {G0 H0 G H G1 H1:Hp} {σ:St} {fp:List Addr},dz F.K G0 H0 G H ρ σ fp->Step G H G1 H1->RS F.K G0 H0 G1 H1 ρ σ:=fun {G0 H0 G H G1 H1 σ fp} r s1=>⟨fp,r.st.trans s1,r.own.mono s1.g s1.h,r.own.off s1 r.g,r.n,r.d⟩
 cases p with
 |true =>
  obtain⟨bY,x',y'⟩:=h1 rfl;refine⟨EV τ bY x6,fun i=>nq (y i) (x' i) BC,fun D σ G0 H0 G H r k=>?_⟩;obtain⟨fp,r⟩:=r;exact z σ G H fp _ r.st.s r.own r.g fun G1 H1 s1=>gx (y' D σ G0 H0 G1 H1 (key r s1) k)
 |false =>
  obtain⟨bY,x',y'⟩:=h2 rfl;refine⟨EV τ x6 bY,fun i=>nq (y i) BC (x' i),fun D σ G0 H0 G H r k=>?_⟩;obtain⟨fp,r⟩:=r;exact z σ G H fp _ r.st.s r.own r.g fun G1 H1 s1=>eR (y' D σ G0 H0 G1 H1 (key r s1) k)
theorem ua {α:Type}:∀ {l:List α} {j:Nat} {v : α},l[j]?=some v->l.set j v=l
 |_::_,0,_,h=>by cases h;rfl
 |_::_,j+1,_,h=>by rw[aky,ua (l:=_) (j:=j) h]
theorem W2 (j:Nat)(hj : ρ[j]?=some (some t))(h:bw F cB (ρ.set j (some (.fz (er t)))) o):bw F cB ρ o:=by
 obtain⟨τ,x,y⟩:=h;refine⟨τ,x,fun D σ G0 H0 G H r k=>?_⟩;obtain⟨fp,r⟩:=r;obtain⟨v,f,fr,q1,q2,q3,q4⟩:=r.own.split hj;have nd:=r8.mp (q4.nodup_iff.mp r.d);have sub:∀ a ∈ f,a ∈ fp:=fun a ha=>q4.mem_iff.mpr (nv _ ha)
 have QP:∀ a ∈ fr,a ∈ fp:=fun a ha=>q4.mem_iff.mpr (ij _ ha)
 have sm:au G (eu G H f):=jy fun a ha=>r.g a (sub a ha)
 have lt:j < ρ.length:=by
  rcases JJ j ρ.length with z | z
  ·exact z
  ·rw[nt z]at hj;cases hj
 obtain⟨dC,p1,p2⟩:=(q3.mono sm (au.refl _)).put (f:=[]) (t:=.fz (er t)) (qH lt) ⟨rfl,q2.hv sm fun a ha=>iX ha⟩;rw[WA,ua q1]at p1;refine y D σ G0 H0 (eu G H f) H ⟨dC,⟨r.st.g.trans sm,r.st.h,ou r.st.s,fun a h h'=>?_⟩,p1,fun a ha=>?_,fun a ha=>r.n a (QP a (p2.mem_iff.mp ha)),p2.nodup_iff.mpr nd.2.1⟩ k
 ·by_cases z:a ∈ f
  ·exact r.n a (sub a z)
  ·rw[mX z]at h';exact r.st.n a h h'
 ·have z:=p2.mem_iff.mp ha;rw[mX fun z'=>nd.2.2 a z' a z rfl];exact r.g a (QP a z)
theorem dz.chg {K:Frag}{G0 H0 G H G1 H1:Hp}{ρ:En}{σ:St}{fp:List Addr}{j:Nat}{t:Tr}(r:dz K G0 H0 G H ρ σ fp)(hj : ρ[j]?=some (some t))(s1:Step G H G1 H1) :
  ∃ v f,σ[j]?=some (some v)/\Ow K G H t v f/\Ow K G1 H1 t v f/\f.Nodup/\(∀ a ∈ f,a ∈ fp)/\∀ l o t' f',l ∈ f->Ow K G1 (upd H1 l o) t' v f'->f'.Nodup->(∀ a ∈ f',a ∈ f\/(H a=none/\G1 a=none))->RS K G0 H0 G1 (upd H1 l o) (ρ.set j (some t')) σ:=by
 obtain⟨v,f,fr,q1,q2,q3,q4⟩:=r.own.split hj;have bZ:=r8.mp (q4.nodup_iff.mp r.d);have kh:∀ a ∈ f,a ∈ fp:=fun a ha=>q4.mem_iff.mpr (nv _ ha)
 have pP:∀ a ∈ fr,a ∈ fp:=fun a ha=>q4.mem_iff.mpr (ij _ ha)
 have lt:j < ρ.length:=by
  rcases JJ j ρ.length with z | z
  ·exact z
  ·rw[nt z]at hj;cases hj
 have lG:∀ a ∈ fp,G1 a=none:=fun a ha=>by
  cases q:G1 a with
  |none=>rfl
  |some u =>
   obtain⟨u',bh⟩:=r.own.there a ha;have:=s1.n a (r.g a ha) (by rw[q];exact fun z=>nomatch z);rw[bh]at this;cases this
 refine⟨v,f,q1,q2,q2.mono s1.g s1.h,bZ.1,kh,fun l o t' f' hl ow nw hw=>?_⟩;have new:∀ a,H a=none->a ∉ fp:=fun a ha hb=>by
  obtain⟨u,hu⟩:=r.own.there a hb;rw[ha]at hu;cases hu
 have q3':aK K G1 (upd H1 l o) (ρ.set j none) σ fr:=(q3.mono s1.g s1.h).frame fun z=>bZ.2.2 l hl l z rfl
 obtain⟨dC,SA,SD⟩:=q3'.put (qH lt) ow;rw[WA,ua q1]at SA;have QQ:∀ a ∈ dC,a ∈ fp\/(H a=none/\G1 a=none):=fun a ha=>by
  rcases wb.mp (SD.mem_iff.mp ha)with z | z
  ·exact(hw a z).imp (kh a) id
  ·exact .inl (pP a z)
 refine⟨dC,⟨(r.st.trans s1).g,fun b u hb=>?_,fun b u hb=>?_,(r.st.trans s1).n⟩,SA,fun a ha=>?_,fun a ha=>?_,?_⟩
 ·have mL:=(r.st.trans s1).h b u hb;rw[aQ fun z=>?_]
  ·exact mL
  ·subst z;rw[r.n _ (kh _ hl)]at hb;cases hb
 ·have mL:=s1.s b u hb;rw[aQ fun z=>?_]
  ·exact mL
  ·subst z;rw[lG _ (kh _ hl)]at hb;cases hb
 ·exact(QQ a ha).elim (lG a) fun z=>z.2
 ·exact(QQ a ha).elim (r.n a) fun z=>r.st.h.free z.1
 ·refine SD.nodup_iff.mpr (r8.mpr ⟨nw,bZ.2.1,fun a ha b hb z=>?_⟩);subst z;rcases hw a ha with z | z
  ·exact bZ.2.2 a z a hb rfl
  ·exact new a z.1 (pP a hb)
theorem dz.mut {K:Frag}{G0 H0 G H G1 H1:Hp}{ρ:En}{σ:St}{fp:List Addr}{j:Nat}{us:List Tr}(r:dz K G0 H0 G H ρ σ fp)(hj : ρ[j]?=some (some (.ow us)))(s1:Step G H G1 H1) :
  ∃ l vs fq,σ[j]?=some (some (.ref l))/\H l=some (.lst vs)/\H1 l=some (.lst vs)/\aE K G1 H1 us vs fq/\fq.Nodup/\(∀ a ∈ fq,a ∈ fp)/\∀ zk ws fw,aE K G1 H1 zk ws fw->fw.Nodup->(∀ a ∈ fw,a ∈ fq\/(H a=none/\G1 a=none))->RS K G0 H0 G1 (upd H1 l (.lst ws)) (ρ.set j (some (.ow zk))) σ:=by
 obtain⟨v,f,q1,q2,q3,nd,kh,q⟩:=r.chg hj s1;obtain⟨l,vs,fq,rfl,hl,ol,rfl⟩:=q3;obtain⟨l',ki,fZ,e1,zl,_,e2⟩:=q2;cases e1;have ev:ki=vs:=by
  have:=s1.h _ _ zl;rw[hl]at this;cases this;rfl
 subst ev;have vM:=BB.mp nd;refine⟨l,ki,fq,q1,zl,hl,ol,vM.2,fun a ha=>kh a (.tail _ ha),fun zk ws fw ow nw hw=>?_⟩;have SE:l ∉ fw:=fun z=>(hw l z).elim vM.1 fun z=>by rw[z.1]at zl;cases zl
 exact q l (.lst ws) (.ow zk) (l::fw) (.head _) ⟨l,ws,fw,rfl,bO,ow.frame SE,rfl⟩ (BB.mpr ⟨SE,nw⟩) fun a ha=>(gr.mp ha).elim (fun z=>.inl (z ▸ .head _)) fun z=>(hw a z).imp (fun z=>.tail _ z) id
theorem rm (j:Nat){x:Str}{us:List Tr}{p1 p2 p3:Pos}(h : ρ[j]?=some (some (.ow us)))(he:bx F e ρ t)(hz:us.length<sizeLine)(hN:∀ i,(F.cx i).N[j]?=some x:=by intro _;rfl)(hv:∀ i,jI (F.cx i).env.scope x:=by intro _;first | exact Or.inl rfl | exact Or.inr (Or.inl rfl) | exact Or.inr (Or.inr rfl))(hd:(x==("__debug__" : Str))=false:=by decide)(hc:(x==("__classdict__" : Str))=false:=by decide)(hC:∀ i,attributeBase (.Name x p1) "append" (F.cx i).env (eval (.Name x p1) (F.cx i).env)=eval (.Name x p1) (F.cx i).env:=by intro _;rfl)(hJ:∀ i,((backTo p3 (starEach [e] (F.cx i).env)).all (fun x=>!x.1)&&(backToKw p3 (keywordEach [] (F.cx i).env)).all (fun x=>x.1.isSome)&&decide (([e]:List Expr).length+([]:List Keyword).length+(if([]:List Keyword).isEmpty then 0 else 1)<30))=true:=by intro _;rfl)(hline:(p2.endLine==p3.line)=true:=by rfl)(hs:∀ i,starEach [e] (F.cx i).env=[(false,eval e (F.cx i).env)]:=by intro _;rfl)(kj:∀ i,swapsWith (.Call (.Attribute (.Name x p1) "append" p2) [e] [] p3) none pos.line (F.cx i).env=pure false:=by intro _;rfl) :
  Rn F (.Expr (.Call (.Attribute (.Name x p1) "append" p2) [e] [] p3) pos) ρ (.nx (ρ.set j (some (.ow (us++[t]))))):=by
 obtain⟨τ,y,z⟩:=he;refine⟨sA (pH F.K "list" xC (bU j) (dc τ dO)),fun i=>ug (F.hK i ▸ sE OF ajF ajG t6 (m4 (hN i) (hv i) hd hc) (aX (y i) cu (hs i)) (hC i) (hJ i) hline (hs i) rfl) (kj i),fun D σ G0 H0 G H r k=>?_⟩;obtain⟨fp,r⟩:=r;obtain⟨l0,zm,zo,c1,c2,_⟩:=r.mut h (.refl r.st.s);refine⟨_,c1,.inl ⟨rfl,_,aL.of c2⟩,?_⟩;refine z σ G H fp _ r.st.s r.own r.g fun v1 G1 H1 f1 s1 o1 w1=>?_
 obtain⟨l,vs,fq,d1,d2,d3,d4,d5,d6,d7⟩:=r.mut h s1;rw[c1]at d1;cases d1;refine⟨l0,vs,v1,rfl,rfl,d3,by rw[<- d4.length];exact hz,k σ G1 _ (d7 (us++[t]) (vs++[v1]) (fq++(f1++[])) (d4.append ⟨v1,[],f1,[],rfl,rfl,o1,rfl,rfl⟩) ?_ fun a ha=>?_)⟩
 ·rw[FF];refine r8.mpr ⟨d5,w1.d,fun a ha b hb e=>?_⟩;subst e;obtain⟨u,hu⟩:=r.own.there a (d6 a ha);rw[w1.n a hb]at hu;cases hu
 ·rw[FF]at ha;exact(wb.mp ha).imp id fun z=>⟨w1.n a z,w1.g a z⟩
theorem XB (j:Nat){x:Str}{us:List Tr}{p1 p2 p3:Pos}(h : ρ[j]?=some (some (.ow us))){ki:List Tr}(he:bx F e ρ (.ow ki))(hz:us.length+ki.length<=sizeLine)(hN:∀ i,(F.cx i).N[j]?=some x:=by intro _;rfl)(hv:∀ i,jI (F.cx i).env.scope x:=by intro _;first | exact Or.inl rfl | exact Or.inr (Or.inl rfl) | exact Or.inr (Or.inr rfl))(hd:(x==("__debug__" : Str))=false:=by decide)(hc:(x==("__classdict__" : Str))=false:=by decide)(hC:∀ i,attributeBase (.Name x p1) "extend" (F.cx i).env (eval (.Name x p1) (F.cx i).env)=eval (.Name x p1) (F.cx i).env:=by intro _;rfl)(hJ:∀ i,((backTo p3 (starEach [e] (F.cx i).env)).all (fun x=>!x.1)&&(backToKw p3 (keywordEach [] (F.cx i).env)).all (fun x=>x.1.isSome)&&decide (([e]:List Expr).length+([]:List Keyword).length+(if([]:List Keyword).isEmpty then 0 else 1)<30))=true:=by intro _;rfl)(hline:(p2.endLine==p3.line)=true:=by rfl)(hs:∀ i,starEach [e] (F.cx i).env=[(false,eval e (F.cx i).env)]:=by intro _;rfl)(kj:∀ i,swapsWith (.Call (.Attribute (.Name x p1) "extend" p2) [e] [] p3) none pos.line (F.cx i).env=pure false:=by intro _;rfl) :
  Rn F (.Expr (.Call (.Attribute (.Name x p1) "extend" p2) [e] [] p3) pos) ρ (.nx (ρ.set j (some (.ow (us++ki))))):=by
 obtain⟨τ,y,z⟩:=he;refine⟨sA (pH F.K "list" NC (bU j) (dc τ dO)),fun i=>ug (F.hK i ▸ sE OF PySem.F.slot_list_extend PySem.F.type_list_extend Xw (m4 (hN i) (hv i) hd hc) (aX (y i) cu (hs i)) (hC i) (hJ i) hline (hs i) rfl) (kj i),fun D σ G0 H0 G H r k=>?_⟩;obtain⟨fp,r⟩:=r;obtain⟨l0,zm,zo,c1,c2,_⟩:=r.mut h (.refl r.st.s);refine⟨_,c1,.inl ⟨rfl,_,aL.of c2⟩,?_⟩;refine z σ G H fp _ r.st.s r.own r.g fun v1 G1 H1 f1 s1 o1 w1=>?_
 obtain⟨l,vs,fq,d1,d2,d3,d4,d5,d6,d7⟩:=r.mut h s1;rw[c1]at d1;cases d1;obtain⟨b,zs,fz',rfl,hb,ob,rfl⟩:=o1;have wd:=BB.mp w1.d;refine⟨l0,b,vs,zs,rfl,rfl,d3,hb,by rw[<- d4.length,<- ob.length];exact hz,k σ G1 _ (d7 (us++ki) (vs++zs) (fq++fz') (d4.append ob) ?_ fun a ha=>?_)⟩
 ·refine r8.mpr ⟨d5,wd.2,fun a ha b hb e=>?_⟩;subst e;obtain⟨u,hu⟩:=r.own.there a (d6 a ha);rw[w1.n a (.tail _ hb)]at hu;cases hu
 ·exact(wb.mp ha).imp id fun z=>⟨w1.n a (.tail _ z),w1.g a (.tail _ z)⟩
end
end L2
namespace L2
open PySem PySem.Spec PyProof.Rows
def Gh (K:Frag)(G:Hp)(J:It)(its:List Dv):Prop:=∀ k G1 H1,au G G1->au G1 H1 ->
 (∀ d,its[k]?=some d->J.go k H1/\∀ x H3,J.nM k H1 x H3->∃ G3,Step G1 H1 G3 H3/\Hv K G3 d x)/\(k=its.length->J.stop k H1)
def bT {α:Type}:List Nat->List α->List (Option α)->List (Option α)
 |j::js,v::vs,σ => bT js vs (σ.set j (some v))
 |_,_,σ => σ
def iY {α:Type}:List Nat->List (Option α)->List (Option α)
 |[],ρ => ρ
 |j::js,ρ => iY js (ρ.set j none)
theorem RS.iY {K:Frag}{G0 H0 G H:Hp}:∀ {ρ:En} {σ:St} (js:List Nat),RS K G0 H0 G H ρ σ->RS K G0 H0 G H (L2.iY js ρ) σ
 |_,_,[],r=>r
 |_,_,j::js,r=>RS.iY js (r.forget j)
def Fg (ρ ρ':En):Prop:=∃ fs,L2.iY fs ρ=ρ'
theorem Fg.rs {K:Frag}{G0 H0 G H:Hp}{ρ ρ':En}{σ:St}(f:Fg ρ ρ')(r:RS K G0 H0 G H ρ σ):RS K G0 H0 G H ρ' σ:=by
 obtain⟨fs,rfl⟩:=f;exact r.iY fs
theorem RS.bT {K:Frag}{G0 H0 G H:Hp}:∀ {js:List Nat} {ds:List Dv} {vs:List V} {ρ:En} {σ:St},(∀ j ∈ js,j < ρ.length)->bC K G ds vs->RS K G0 H0 G H ρ σ->RS K G0 H0 G H (L2.bT js (ds.map .fz) ρ) (L2.bT js vs σ)
 |[],_,_,_,_,_,_,r=>r
 |_::_,[],_,_,_,_,h,r=>by rw[show _=[]from h];exact r
 |j::js,d::ds,_,ρ,σ,hj,⟨x,q,h1,h2,h3⟩,⟨fp,r⟩=>by
  subst h1;have r':RS K G0 H0 G H (ρ.set j (some (.fz d))) (σ.set j (some x)):=r.set (t:=.fz d) (v:=x) (fq:=[]) (hj j (.head _)) (.refl r.st.s) ⟨rfl,h2⟩ .nil;exact RS.bT (js:=js) (ds:=ds) (fun i hi=>by rw[ET];exact hj i (.tail _ hi)) h3 r'
theorem cj.set {K:Frag}{G:Hp}{ρ:En}{σ:St}{j:Nat}{d:Dv}{v:V}(r:cj K G ρ σ)(hj:j < σ.length)(h:Hv K G d v):cj K G (ρ.set j (some (.fz d))) (σ.set j (some v)):=fun i e hi=>by
 by_cases q:i=j
 ·subst q;rw[LS (by
   rcases JJ i ρ.length with z | z
   ·exact z
   ·rw[nt (by rw[ET];exact z)]at hi;cases hi)]at hi
  cases hi
  exact⟨v,by rw[LS hj],h⟩
 ·rw[BY (Ne.symm q)]at hi;obtain⟨u,h1,h2⟩:=r i e hi;exact⟨u,by rw[BY (Ne.symm q)];exact h1,h2⟩
theorem Br {α:Type}:∀ (js:List Nat) (vs:List α) (σ:List (Option α)),(bT js vs σ).length=σ.length
 |[],_,_=>rfl
 |_::_,[],_=>rfl
 |j::js,v::vs,σ => by
  show(bT js vs (σ.set j (some v))).length=_;rw[Br js vs,ET]
theorem cj.bT {K:Frag}{G:Hp}:∀ {js:List Nat} {ds:List Dv} {vs:List V} {ρ:En} {σ:St},(∀ j ∈ js,j < σ.length)->bC K G ds vs->cj K G ρ σ->cj K G (L2.bT js (ds.map .fz) ρ) (L2.bT js vs σ)
 |[],_,_,_,_,_,_,r=>r
 |_::_,[],_,_,_,_,h,r=>by rw[show _=[]from h];exact r
 |j::js,d::ds,_,ρ,σ,hj,⟨x,q,h1,h2,h3⟩,r=>by
  subst h1;exact cj.bT (js:=js) (ds:=ds) (ρ:=ρ.set j (some (.fz d))) (fun i hi=>by rw[ET];exact hj i (.tail _ hi)) h3 (r.set (hj j (.head _)) h2)
section
variable {ι:Type}
def bp (F:bc ι)(tg iter:Expr)(ρ:En)(its:List Dv):Prop:=∃ wi:TI,(∀ i,PI (F.cx i) tg iter wi)/\∀ σ G H (R:It->Hp->Prop),au G H->cj F.K G ρ σ->(∀ J G' H',Step G H G' H'->Gh F.K G' J its->R J H')->wi σ H R
def E7 (F:bc ι)(tg iter:Expr)(ρ:En)(its:List Dv):Prop:=∃ wi:TI,(∀ i,PI (F.cx i) tg iter wi)/\∀ σ G H fp (R:It->Hp->Prop),au G H->aK F.K G H ρ σ fp->(∀ a ∈ fp,G a=none)->(∀ J G' H',Step G H G' H'->Gh F.K G' J its->R J H')->wi σ H R
def jL (F:bc ι)(tg:Expr)(js:List Nat)(sp:Dv->Option (List Dv)):Prop:=∃ g:TG,(∀ i,PG (F.cx i) tg g)/\∀ d dd v σ G H Q,sp d=some dd->au G H->Hv F.K G d v->(∀ vs,bC F.K G dd vs->Q (bT js vs σ) H)->g v σ H Q
def uS (F:bc ι)(cB:List Stmt):TS:=fun D σ H=>∃ τ:TS,(∀ i,fU (F.cx i) cB τ)/\τ D σ H
theorem Qe {F:bc ι}{cB:List Stmt}(i : ι):fU (F.cx i) cB (uS F cB):=fun pins s σ H D I ⟨τ,h,q⟩=>h i pins s σ H D I q
def uT (F:bc ι)(e:Expr):TT:=fun σ H Q=>∃ τ:TT,(∀ i,PT (F.cx i) e τ)/\τ σ H Q
theorem uO {F:bc ι}{e:Expr}(i : ι):PT (F.cx i) e (uT F e):=fun pins s σ H D I ⟨τ,h,q⟩=>h i pins s σ H D I q
def uE (F:bc ι)(e:Expr):TE:=fun σ H Q=>∃ τ:TE,(∀ i,PE (F.cx i) e τ)/\τ σ H Q
theorem oS {F:bc ι}{e:Expr}(i : ι):PE (F.cx i) e (uE F e):=fun pins s σ H D I ⟨τ,h,q⟩=>h i pins s σ H D I q
variable {F:bc ι}{e a b c tg iter elt:Expr}{es:List Expr}{ρ ρ1:En}{t ta:Tr}{ts:List Tr}{pos:Pos}{o:Out}{body:List Stmt}{its:List Dv}{js:List Nat}{sp:Dv->Option (List Dv)}
theorem bp.s (h:bp F tg iter ρ its):E7 F tg iter ρ its:=let ⟨w,x,y⟩:=h;⟨w,x,fun σ G H fp R s r _ k=>y σ G H R s r.gG k⟩
theorem bJ (j:Nat){x:Str}(hN:∀ i,(F.cx i).N.Nodup)(hi:∀ i,(F.cx i).N[j]?=some x:=by intro _;rfl)(hx:∀ i,Loc (F.cx i).env.scope x:=by intro _;first | exact Or.inl rfl | exact Or.inr rfl)(hf:∀ i,(F.cx i).fn x=true\/(F.cx i).env.scope.names.lookup x=some .local:=by intro _;first | exact .inl rfl | exact .inr rfl):jL F (.Name x pos) [j] (fun d=>some [d]) :=
 ⟨cO j,fun i=>gK (hN i) (hi i) (hx i) (hf i),fun d dd v σ G H Q e s h k=>by
  cases e
  exact k [v] ⟨v,[],rfl,h,rfl⟩⟩
def Ec (n:Nat):Dv->Option (List Dv)
 | .tup ds=>if ds.length=n then some ds else none
 |_=>none
theorem bR {xs:List Dv}(ha:Ev F e ρ ta)(ea:er ta=.lst xs):bp F tg e ρ xs:=by
 obtain⟨τ,p,q⟩:=ha.use;refine⟨sC F.K τ,fun i=>F.hK i ▸ rM (p i),fun σ G H R s r k=>q σ G H _ s r fun x G1 H1 s1 hx=>?_⟩;rw[ea]at hx;obtain⟨l,vs,rfl,h1,h2⟩:=hx;refine⟨l,rfl,⟨vs,s1.s.seq h1⟩,k _ G1 H1 s1 fun j G2 H2 sg sh=>⟨fun d hd=>?_,fun hz=>⟨vs,(sg.trans sh).seq h1,by rw[<- h2.length,hz];exact br _⟩⟩⟩;obtain⟨v,q1,q2⟩:=h2.get hd;refine⟨⟨vs,v,(sg.trans sh).seq h1,q1⟩,?_⟩;rintro x H3 ⟨rfl,hx⟩;have:=hx vs ((sg.trans sh).seq h1);rw[q1]at this;cases this;exact⟨G2,.refl sh,q2.mono sg⟩
abbrev jj (lo:Int)(n:Nat):List Dv:=(List.range n).map fun k=>di (lo+(k:Nat))
theorem Zw {K:Frag}{G:Hp}(lo:Int)(n:Nat):Gh K G (pF lo n) (jj lo n):=fun k G1 H1 sg sh=>by
 refine⟨fun d hd=>?_,fun hz=>by show n<=k;rw[hz];simp⟩;rw[ee]at hd;rcases JJ k n with hk | hk
 ·rw[CS hk]at hd;cases hd;refine⟨hk,?_⟩;rintro x H3 ⟨rfl,rfl⟩;exact⟨G1,.refl sh,rfl,rfl⟩
 ·rw[nt (by simpa using hk)]at hd;cases hd
theorem iE {n:Int}(hm:F.mg "range" = none)(ha:Ev F a ρ (ti n))(hb : -(2 ^ 62)<=n/\n<2 ^ 62){p:Pos}(hg:∀ i,Gl (F.cx i) "range" := by intro _;rfl)(hs:∀ i,starEach [a] (F.cx i).env=[(false,eval a (F.cx i).env)]:=by intro _;rfl):bp F tg (.Call (.Name "range" p) [a] [] pos) ρ (jj 0 n.toNat):=by
 obtain⟨τ,p,q⟩:=ha.use;refine⟨PZ (dc τ dO),fun i=>LV (hg i) ((F.hm i).symm ▸ hm) (aX (p i) cu (hs i)) (hs i),fun σ G H R s r k=>q σ G H _ s r fun x G1 H1 s1 hx=>?_⟩;exact⟨n,by rw[aO hx],hb.1,hb.2,k _ G1 H1 s1 (Zw 0 n.toNat)⟩
theorem E8 {js:List Nat}{n:Nat}(h:js.all (fun j=>Nat.blt j n)=true):∀ j ∈ js,j<n:=fun j hj=>Po (LM.mp h j hj)
theorem yT {i : ι}(hx:(F.cx i).xe=cR):PassesOwn (model (F.cx i).prog (F.cx i).w) (F.cx i).A (F.cx i).env (F.cx i).xe:=by rw[hx];exact aiZ
theorem Lz (hi:E7 F tg iter ρ its)(hg:jL F tg js sp)(inv:Nat->En)(m:Nat)(hm:m<=its.length)(h0:inv 0=ρ)(hlen:∀ k,js.all (fun j=>Nat.blt j (inv k).length)=true)(step:∀ k d,k<m->its[k]?=some d->∃ dd tj,sp d=some dd/\bw F body (bT js (dd.map .fz) (inv k)) (.nx tj)/\Fg tj (inv (k+1)))(fin:(m=its.length/\o=.nx (inv m))\/∃ d dd t,its[m]?=some d/\sp d=some dd/\bw F body (bT js (dd.map .fz) (inv m)) (.rt t)/\o=.rt t)(hx:∀ i,(F.cx i).xe=cR:=by intro _;rfl)(hs:∀ i x,foldedSetIterable iter (F.cx i).env x=pure x:=by intro _ _;rfl):Rn F (.For tg iter body [] pos) ρ o:=by
 obtain⟨wi,p,q⟩:=hi;obtain⟨g,pg,qg⟩:=hg;subst h0;refine⟨sR wi g (uS F body),fun i=>m7 (yT (hx i)) (F.calm i) (p i) (pg i) (Qe i) (hs i),fun D σ G0 H0 G H r k=>?_⟩;obtain⟨fp,r⟩:=r;refine q σ G H fp _ r.st.s r.own r.g fun J G1 H1 s1 it=>?_
 have r1:dz F.K G0 H0 G1 H1 (inv 0) σ fp:=⟨r.st.trans s1,r.own.mono s1.g s1.h,r.own.off s1 r.g,r.n,r.d⟩
 have kb:=k.under r1.base;refine⟨fun k m' aB H'=>m'=its.length-k/\k<=m/\∃ G',RS F.K G1 (less H1 fp) G' H' (inv k) aB,⟨_,rfl,DO _,G1,fp,r1.rebase⟩,?_⟩;rintro n m' aB H' ⟨rfl,hn,G',r'⟩;obtain⟨dC,r'⟩:=r';obtain⟨i1,i2⟩:=it n G' H' r'.st.g r'.st.s;by_cases aT:n<m
 ·have hd:its[n]?=some its[n]:=ab (by omega);obtain⟨j1,j2⟩:=i1 _ hd;refine .inr ⟨j1,fun bE H2=>∃ G2,RS F.K G1 (less H1 fp) G2 H2 (inv (n+1)) bE,fun bE H2 z=>⟨its.length-(n+1),by omega,rfl,aT,z⟩,fun x H3 y=>?_⟩;obtain⟨G3,s3,h3⟩:=j2 x H3 y;obtain⟨dd,tj,e1,⟨τ,pb,qb⟩,e2⟩:=step n _ aT hd;refine qg _ dd x aB G3 H3 _ e1 s3.s h3 fun vs mM=>⟨τ,pb,qb _ _ G1 (less H1 fp) G3 H3 (RS.bT (E8 (hlen n)) mM ⟨dC,r'.st.trans s3,r'.own.mono s3.g s3.h,fun a ha=>?_,r'.n,r'.d⟩) fun σ4 G4 H4 r4=>⟨G4,e2.rs r4⟩⟩
  cases q:G3 a with
  |none=>rfl
  |some u =>
   obtain⟨u',bh⟩:=r'.own.there a ha;have:=s3.n a (r'.g a ha) (by rw[q];exact fun z=>nomatch z);rw[bh]at this;cases this
 ·have en:n=m:=by omega
  subst en;rcases fin with⟨e,rfl⟩ | ⟨d,dd,t,hd,e1,⟨τ,pb,qb⟩,rfl⟩
  ·refine .inl ⟨i2 e,kb aB G' H' ⟨dC,r'⟩⟩
  ·obtain⟨j1,j2⟩:=i1 d hd;refine .inr ⟨j1,fun _ _=>False,fun _ _ z=>z.elim,fun x H3 y=>?_⟩;obtain⟨G3,s3,h3⟩:=j2 x H3 y;refine qg d dd x aB G3 H3 _ e1 s3.s h3 fun vs mM=>⟨τ,pb,qb _ _ G1 (less H1 fp) G3 H3 (RS.bT (E8 (hlen n)) mM ⟨dC,r'.st.trans s3,r'.own.mono s3.g s3.h,fun a ha=>?_,r'.n,r'.d⟩) kb⟩
   cases q:G3 a with
   |none=>rfl
   |some u =>
    obtain⟨u',bh⟩:=r'.own.there a ha;have:=s3.n a (r'.g a ha) (by rw[q];exact fun z=>nomatch z);rw[bh]at this;cases this
theorem e7 (hi:E7 F tg iter ρ its)(hg:jL F tg js sp)(inv:Nat->En)(h0:inv 0=ρ)(hlen:∀ k,js.all (fun j=>Nat.blt j (inv k).length)=true)(step:∀ k d,its[k]?=some d->∃ dd tj,sp d=some dd/\bw F body (bT js (dd.map .fz) (inv k)) (.nx tj)/\Fg tj (inv (k+1)))(hx:∀ i,(F.cx i).xe=cR:=by intro _;rfl)(hs:∀ i x,foldedSetIterable iter (F.cx i).env x=pure x:=by intro _ _;rfl):Rn F (.For tg iter body [] pos) ρ (.nx (inv its.length)) :=
 Lz hi hg inv its.length (br _) h0 hlen (fun k d _ h=>step k d h) (.inl ⟨rfl,rfl⟩) hx hs
theorem Ym (inv:Nat->En)(n:Nat)(h0:inv 0=ρ)(turn:∀ k,k<n->cK F c (inv k) true/\bw F body (inv k) (.nx (inv (k+1))))(stop:cK F c (inv n) false)(hx:∀ i,(F.cx i).xe=cR:=by intro _;rfl):Rn F (.While c body [] pos) ρ (.nx (inv n)):=by
 subst h0;refine⟨OD (uT F c) (uS F body),fun i=>Mz (yT (hx i)) (uO i) (Qe i),fun D σ G0 H0 G H r k=>?_⟩;refine⟨fun m' aB H'=>∃ j G',j<=n/\m'=n-j/\RS F.K G0 H0 G' H' (inv j) aB,⟨_,0,G,DO _,rfl,r⟩,?_⟩;rintro m' aB H' ⟨j,G',hj,rfl,fp,r'⟩;have key:∀ {G1 H1:Hp},Step G' H' G1 H1->RS F.K G0 H0 G1 H1 (inv j) aB:=fun {G1 H1} s1=>⟨fp,r'.st.trans s1,r'.own.mono s1.g s1.h,r'.own.off s1 r'.g,r'.n,r'.d⟩
 by_cases aT:j<n
 ·obtain⟨⟨τ,x,y⟩,⟨bY,x',y'⟩⟩:=turn j aT;refine⟨τ,x,y aB G' H' fp _ r'.st.s r'.own r'.g fun G1 H1 s1=>gx ⟨fun bE H2=>∃ G2,RS F.K G0 H0 G2 H2 (inv (j+1)) bE,fun bE H2 ⟨G2,z⟩=>⟨n-(j+1),by omega,j+1,G2,aT,rfl,z⟩,bY,x',?_⟩⟩;exact y' _ aB G0 H0 G1 H1 (key s1) fun σ4 G4 H4 r4=>⟨G4,r4⟩
 ·have e:j=n:=by omega
  subst e;obtain⟨τ,x,y⟩:=stop;exact⟨τ,x,y aB G' H' fp _ r'.st.s r'.own r'.g fun G1 H1 s1=>eR (k aB G1 H1 (key s1))⟩
theorem Wt {α:Type}(S : α->En)(Pp : α->Prop)(p : α->Bool)(μ : α->Nat)(hc:∀ a,Pp a->cK F c (S a) (p a))(hb:∀ a,Pp a->p a=true->∃ a',Pp a'/\μ a' < μ a/\bw F body (S a) (.nx (S a')))(a0 : α)(h0:Pp a0)(hx:∀ i,(F.cx i).xe=cR:=by intro _;rfl):∃ a',Pp a'/\p a'=false/\Rn F (.While c body [] pos) (S a0) (.nx (S a')):=by
 have:∀ (m:Nat) (a : α),μ a<=m->Pp a->∃ (n:Nat) (f:Nat->α),f 0=a/\(∀ k,k<n->Pp (f k)/\p (f k)=true/\bw F body (S (f k)) (.nx (S (f (k+1)))))/\Pp (f n)/\p (f n)=false:=by
  intro m
  induction m with
  |zero =>
   intro a hm ha;cases hp:p a with
   |false=>exact⟨0,fun _=>a,rfl,fun k hk=>absurd hk (ajg _),ha,hp⟩
   |true =>
    obtain⟨a',_,h2,_⟩:=hb a ha hp;omega
  |succ m ih =>
   intro a hm ha;cases hp:p a with
   |false=>exact⟨0,fun _=>a,rfl,fun k hk=>absurd hk (ajg _),ha,hp⟩
   |true =>
    obtain⟨a',h1,h2,h3⟩:=hb a ha hp;obtain⟨n,f,f0,f1,f2,f3⟩:=ih a' (by omega) h1;refine⟨n+1,fun k=>match k with | 0=>a | k+1=>f k,rfl,fun k hk=>?_,f2,f3⟩;cases k with
    |zero=>exact⟨ha,hp,by show bw F body (S a) (.nx (S (f 0)));rw[f0];exact h3⟩
    |succ k=>exact f1 k (by omega)
 obtain⟨n,f,f0,f1,f2,f3⟩:=this (μ a0) a0 (br _) h0;refine⟨f n,f2,f3,Ym (fun k=>S (f k)) n (by rw[f0]) (fun k hk=>?_) (by have:=hc _ f2;rw[f3]at this;exact this) hx⟩;obtain⟨g1,g2,g3⟩:=f1 k hk;exact⟨by have:=hc _ g1;rw[g2]at this;exact this,g3⟩
structure acH where
 C:Addr
 s:Shared
 H:Hp
 ex:List Addr
 pn:List (Addr×Obj)
def de (F:bc ι)(own:List Str)(fr:List Nat)(sc:Scope)(cl : ι->List (Str×Addr)):bc (ι×acH) where
 cx i:=dm (F.cx i.1) own fr sc (cl i.1) i.2.C i.2.s i.2.H i.2.ex i.2.pn
 P:=F.P
 w:=F.w
 K:=F.K
 mg:=F.mg
 base:=F.base
 room:=F.room
 hP i:=F.hP i.1
 hw i:=F.hw i.1
 hK i:=F.hK i.1
 hm i:=F.hm i.1
 hb i:=F.hb i.1
 hr i:=F.hr i.1
 calm i:=F.calm i.1
def cU (own:List Str)(fr:List Nat)(ρ:En):En:=own.map (fun _=>none)++fr.map fun j=>(ρ[j]?).join
theorem aaM {K:Frag}{G:Hp}{own:List Str}{fr:List Nat}{ρ:En}{σ:St}(r:cj K G ρ σ):cj K G (cU own fr ρ) (uk own fr σ):=fun i d h=>by
 unfold cU at h;unfold uk;by_cases hi:i<own.length
 ·rw[aju (by simpa using hi),ee]at h;cases q:own[i]? with
  |none=>rw[q]at h;cases h
  |some z=>rw[q]at h;cases h
 ·rw[LH (by simpa using hi),ee,aa]at h;rw[LH (by simpa using hi),ee,aa];cases q:fr[i-own.length]? with
  |none=>rw[q]at h;cases h
  |some j =>
   rw[q]at h;have h':(ρ[j]?).join=some (.fz d):=xw h;have hj : ρ[j]?=some (some (.fz d)):=by
    cases q2 : ρ[j]? with
    |none=>rw[q2]at h';cases h'
    |some o=>rw[q2]at h';exact congrArg some h'
   obtain⟨v,h1,h2⟩:=r j d hj;refine⟨v,?_,h2⟩;show some ((σ[j]?).join)=_;rw[h1]
   rfl
def El {κ:Type}(F:bc κ)(ifs:List Expr)(ρ:En)(b:Bool):Prop:=∃ tt:TT,(∀ i (pins:List (Addr×Obj)) (s1:Shared) (aN:St) (H1:Hp) (Q:Bool->Hp->Prop),Inv (F.cx i) pins aN H1 s1->tt aN H1 Q ->
   wpAny (model (F.cx i).prog (F.cx i).w) (F.cx i).A (lN ifs (F.cx i).env) (TP (F.cx i) pins aN Q) cR s1)/\∀ σ G H Q,au G H->cj F.K G ρ σ->(∀ G' H',Step G H G' H'->Q b H')->tt σ H Q
theorem yd:El F [] ρ true:=⟨xF,fun i pins s1 aN H1 Q I h=>Qa pins s1 aN H1 Q I h,fun σ G H Q s r k=>k G H (.refl s)⟩
theorem g9 {p:Bool}(h:Et F c ρ p)(hx:∀ i,(F.cx i).xe=cR:=by intro _;rfl):El F [c] ρ p:=let ⟨τ,x,y⟩:=h;⟨τ,fun i pins s1 aN H1 Q I h=>abW (x i) (hx i) pins s1 aN H1 Q I h,y⟩
def uL {κ:Type}(F:bc κ)(ifs:List Expr):TT:=fun σ H Q=>∃ tt:TT,(∀ i (pins:List (Addr×Obj)) (s1:Shared) (aN:St) (H1:Hp) (Q:Bool->Hp->Prop),Inv (F.cx i) pins aN H1 s1->tt aN H1 Q ->
   wpAny (model (F.cx i).prog (F.cx i).w) (F.cx i).A (lN ifs (F.cx i).env) (TP (F.cx i) pins aN Q) cR s1)/\tt σ H Q
def zp (F:bc ι)(own:List Str)(fr:List Nat)(sc:Scope)(cl : ι->List (Str×Addr))(elt tg iter:Expr)(ifs:List Expr)(τ:TE):Prop:=∃ wi g tt te,τ=zh wi g tt te own fr/\(∀ i,PI (F.cx i) tg iter wi)/\(∀ i,PG ((de F own fr sc cl).cx i) tg g) /\
 (∀ i (pins:List (Addr×Obj)) (s1:Shared) (aN:St) (H1:Hp) (Q:Bool->Hp->Prop),Inv ((de F own fr sc cl).cx i) pins aN H1 s1->tt aN H1 Q->wpAny (model ((de F own fr sc cl).cx i).prog ((de F own fr sc cl).cx i).w) ((de F own fr sc cl).cx i).A (lN ifs ((de F own fr sc cl).cx i).env) (TP ((de F own fr sc cl).cx i) pins aN Q) cR s1) /\
 ∀ i,PE ((de F own fr sc cl).cx i) elt te
def dD (F:bc ι)(own:List Str)(fr:List Nat)(sc:Scope)(cl : ι->List (Str×Addr))(elt tg iter:Expr)(ifs:List Expr)(ρ:En)(t:Tr):Prop:=∃ τ,zp F own fr sc cl elt tg iter ifs τ/\∀ σ G H Q,au G H->cj F.K G ρ σ->Kv F.K G H t Q->τ σ H Q
theorem Gi {ifs:List Expr}{sc:Scope}{own:List Str}{fr:List Nat}{cl : ι->List (Str×Addr)}(hi:bp F tg iter ρ its)(hg:jL (de F own fr sc cl) tg js sp)(km:∀ j ∈ js,j<own.length)(p:Nat->Bool)(f:Nat->Tr)(hz:its.length<sizeLine)(step:∀ k d,its[k]?=some d->∃ dd,sp d=some dd/\El (de F own fr sc cl) ifs (bT js (dd.map .fz) (cU own fr ρ)) (p k)/\(p k=true->Ev (de F own fr sc cl) elt (bT js (dd.map .fz) (cU own fr ρ)) (f k)))(e9:∀ dd:List Dv,iY js (bT js (dd.map .fz) (cU own fr ρ))=cU own fr ρ):dD F own fr sc cl elt tg iter ifs ρ (.ow (((List.range its.length).filter p).map f)):=by
 obtain⟨wi,pi,qi⟩:=hi;obtain⟨g,pg,qg⟩:=hg;refine⟨_,⟨wi,g,uL (de F own fr sc cl) ifs,uE (de F own fr sc cl) elt,rfl,pi,pg,fun i pins s1 aN H1 Q I h=>by
   obtain⟨tt,h1,h2⟩:=h;exact h1 i pins s1 aN H1 Q I h2,fun i=>oS i⟩,fun σ G H Q s r k=>?_⟩
 refine qi σ G H _ s r fun J G1 H1 s1 it acc fe=>?_
 have k1:=k.step s1;have OW:∀ {G':Hp} {js':List Nat} {ρ':En} {aB:St},cj F.K G' ρ' aB->cj F.K G' (iY js' ρ') aB:=by
  intro G' js'
  induction js' with
  |nil=>intro ρ' aB z;exact z
  |cons j js' ih =>
   intro ρ' aB z;refine ih (ρ':=ρ'.set j none) fun i d hd=>?_
   by_cases q:j=i
   ·subst q;rw[Lu]at hd;simp at hd
   ·rw[BY q]at hd;exact z i d hd
 refine⟨fun i m ys aN H2=>m=its.length-i/\i<=its.length/\aN.length=own.length+fr.length/\H2 acc=some (.lst ys)/\∃ G2 fq,Step G1 H1 G2 H2/\aE F.K G2 H2 (((List.range i).filter p).map f) ys fq/\Nw H1 G2 (acc::fq)/\cj F.K G2 (cU own fr ρ) aN,
  ⟨_,rfl,DO _,by simp[uk],bO,G1,[],.hW s1.s fe,⟨rfl,rfl⟩,⟨fun a ha=>by rw[rf.mp ha];exact fe,fun a ha=>by rw[rf.mp ha];exact s1.s.free fe,by simp⟩,(aaM r).mono s1.g⟩,?_⟩
 rintro i m ys aN H2 ⟨rfl,hi,zq,kY,G2,fq,s2,o2,w2,r2⟩;have hlen:ys.length<sizeLine:=by
  rw[<- o2.length,aa];have:=IS p (List.range i);rw[Cf]at this;omega
 refine⟨kY,hlen,?_⟩;obtain⟨i1,i2⟩:=it i G2 H2 s2.g s2.s;by_cases aT:i<its.length
 ·have hd:its[i]?=some its[i]:=ab aT;obtain⟨j1,j2⟩:=i1 _ hd;obtain⟨dd,e1,el,ev⟩:=step i _ hd;refine .inr ⟨j1,fun zs bE H3=>bE.length=own.length+fr.length/\H3 acc=some (.lst zs)/\∃ G3 fq,Step G1 H1 G3 H3/\aE F.K G3 H3 (((List.range (i+1)).filter p).map f) zs fq/\Nw H1 G3 (acc::fq)/\cj F.K G3 (cU own fr ρ) bE,
   fun zs bE H3 z=>⟨its.length-(i+1),by omega,rfl,aT,z⟩,fun x H3 y=>?_⟩
  obtain⟨G3,s3,h3⟩:=j2 x H3 y;refine qg _ dd x aN G3 H3 _ e1 s3.s h3 fun vs mM=>?_
  have zr:∀ j ∈ js,j<aN.length:=fun j hj=>by have:=km j hj;omega
  have rr:cj F.K G3 (bT js (dd.map .fz) (cU own fr ρ)) (bT js vs aN):=cj.bT zr mM (r2.mono s3.g);have yw:∀ {Ga Ha Gb Hb:Hp} {fs:List Addr},Step Ga Ha Gb Hb->(∀ a ∈ fs,Ga a=none)->(∀ a ∈ fs,∃ o,Ha a=some o)->∀ a ∈ fs,Gb a=none:=fun {Ga Ha Gb Hb fs} st h1 h2 a ha=>by
   cases q:Gb a with
   |none=>rfl
   |some u =>
    obtain⟨u',bh⟩:=h2 a ha;have:=st.n a (h1 a ha) (by rw[q];exact fun z=>nomatch z);rw[bh]at this;cases this
  have tm:∀ a ∈ acc::fq,∃ o,H2 a=some o:=fun a ha=>(gr.mp ha).elim (fun z=>⟨_,z ▸ kY⟩) (o2.there a)
  have er:(List.range (i+1)).filter p=(List.range i).filter p++if p i=true then [i]else []:=by
   rw[ako,akz];congr 1;simp only[Lm,List.filter_nil]
  obtain⟨tt,pt,qt⟩:=el;refine⟨tt,pt,qt _ G3 H3 _ s3.s rr fun G5 H5 s5=>?_⟩;have nT:=s3.trans s5;cases hp:p i with
  |false =>
   refine eR ⟨by rw[Br];exact zq,nT.h _ _ kY,G5,fq,s2.trans nT,?_,⟨w2.n,yw nT w2.g tm,w2.d⟩,?_⟩
   ·rw[er,hp,mf (by decide),FF];exact o2.mono nT.g nT.h
   ·have:=OW (js':=js) (rr.mono s5.g);rwa [e9 dd]at this
  |true =>
   obtain⟨te,pe,qe⟩:=ev hp;refine gx ⟨te,pe,qe _ G5 H5 _ s5.s (rr.mono s5.g) fun v G6 H6 f6 s6 o6 w6=>?_⟩;have pQ:=nT.trans s6;have Gj:=pQ.h _ _ kY;have pR:∀ a ∈ f6,a ∉ acc::fq:=fun a ha hb=>by
    obtain⟨u,hu⟩:=tm a hb;have:=nT.h _ _ hu;rw[w6.n a ha]at this;cases this
   have gH:=BB.mp w2.d;have g6:=yw pQ w2.g tm;refine⟨Gj,by rw[Br];exact zq,bO,G6,fq++(f6++[]),⟨(s2.trans pQ).g,fun b u hb=>?_,fun b u hb=>?_,(s2.trans pQ).n⟩,?_,⟨fun a ha=>?_,fun a ha=>?_,?_⟩,?_⟩
   ·rw[aQ fun z=>by subst z;rw[fe]at hb;cases hb];exact(s2.trans pQ).h b u hb
   ·rw[aQ fun z=>by subst z;rw[g6 _ (.head _)]at hb;cases hb];exact s6.s b u hb
   ·rw[er,hp,lp rfl,Cs];refine aE.append ((o2.mono pQ.g pQ.h).frame gH.1) ⟨v,[],f6,[],rfl,rfl,o6.frame fun z=>pR _ z (.head _),rfl,rfl⟩
   ·rw[FF]at ha;rcases gr.mp ha with z | z
    ·exact w2.n a (z ▸ .head _)
    ·rcases wb.mp z with z | z
     ·exact w2.n a (.tail _ z)
     ·exact(s2.trans nT).h.free (w6.n a z)
   ·rw[FF]at ha;rcases gr.mp ha with z | z
    ·exact g6 a (z ▸ .head _)
    ·rcases wb.mp z with z | z
     ·exact g6 a (.tail _ z)
     ·exact w6.g a z
   ·rw[FF];refine BB.mpr ⟨fun z=>?_,r8.mpr ⟨gH.2,w6.d,fun a ha b hb z=>?_⟩⟩
    ·rcases wb.mp z with z | z
     ·exact gH.1 z
     ·exact pR _ z (.head _)
    ·subst z;exact pR a hb (.tail _ ha)
   ·have:=OW (js':=js) (rr.mono (s5.trans s6).g);rwa [e9 dd]at this
 ·have e:i=its.length:=by omega
  subst e;refine .inl ⟨i2 rfl,k1 (.ref acc) G2 H2 (acc::fq) s2 ⟨acc,ys,fq,rfl,kY,o2,rfl⟩ w2⟩
theorem sJ {ifs:List Expr}{sc:Scope}{own:List Str}{fr:List Nat}{cl : ι->List (Str×Addr)}(L:∀ i,iW (F.cx i) sc (cl i) fr)(hi:bp F tg iter ρ its)(hg:jL (de F own fr sc cl) tg js sp)(km:∀ j ∈ js,j<own.length)(p:Nat->Bool)(f:Nat->Tr)(hz:its.length<sizeLine)(step:∀ k d,its[k]?=some d->∃ dd,sp d=some dd/\El (de F own fr sc cl) ifs (bT js (dd.map .fz) (cU own fr ρ)) (p k)/\(p k=true->Ev (de F own fr sc cl) elt (bT js (dd.map .fz) (cU own fr ρ)) (f k)))(e9:∀ dd:List Dv,iY js (bT js (dd.map .fz) (cU own fr ρ))=cU own fr ρ)(hs:∀ i x,foldedSetIterable iter (F.cx i).env x=pure x:=by intro _ _;rfl) :
  Ev F (.ListComp elt [⟨tg,iter,ifs,0⟩] sc pos) ρ (.ow (((List.range its.length).filter p).map f)):=by
 obtain⟨τ,⟨wi,g,tt,te,rfl,h1,h2,h3,h4⟩,h5⟩:=Gi (ifs:=ifs) hi hg km p f hz step e9;exact⟨_,fun i=>P7 (cl:=cl i) (L i) (F.calm i) (h1 i) (fun C s H ex pn=>h2 (i,⟨C,s,H,ex,pn⟩)) (fun C s H ex pn=>h3 (i,⟨C,s,H,ex,pn⟩)) (fun C s H ex pn=>h4 (i,⟨C,s,H,ex,pn⟩)) (hs i),h5⟩
end
structure IxD (k:Nat) (qual:Str) (sc:Scope) (f:Addr) where
 bg:Value
 A:Around
 outer:List Env
 s:Shared
 H:Hp
 E:XK
 hr:eh k (A.deeper (envOfC qual sc s.heap.objs.size f bg))
def cC (P:Program)(w:World)(K:Frag)(mg:Str->Option Value)(base:Heap)(N:List Str)(qual:Str)(sc:Scope)(f:Addr)(k:Nat):bc (IxD k qual sc f) where
 cx i:=(jg ak P w K mg base N qual sc f i.bg i.A i.outer i.s i.H i.E).mE
 P:=P
 w:=w
 K:=K
 mg:=mg
 base:=base
 room:=k
 hP _:=rfl
 hw _:=rfl
 hK _:=rfl
 hm _:=rfl
 hb _:=rfl
 hr i:=i.hr
 calm _:=rfl
def SF (N:List Str)(dd:List Dv):En:=dd.map (fun d=>some (.fz d))++List.replicate (N.length-dd.length) none
theorem MJ {K:Frag}{G H:Hp}:∀ n:Nat,aK K G H (List.replicate n none) (List.replicate n none) []
 |0=>⟨rfl,rfl⟩
 |n+1=>⟨none,List.replicate n none,rfl,MJ n⟩
theorem L7 {K:Frag}{G H:Hp}{n:Nat}:∀ {dd:List Dv} {vs:List V},bC K G dd vs->aK K G H (dd.map (fun d=>some (.fz d))++List.replicate n none) (vs.map some++List.replicate n none) []
 |[],_,h=>by rw[show _=[]from h];exact MJ n
 |_::_,_,⟨x,r,h1,h2,h3⟩=>by subst h1;exact⟨x,_,[],[],rfl,rfl,⟨rfl,h2⟩,L7 h3⟩
theorem bD {P:Program}{w:World}{K:Frag}{mg:Str->Option Value}{base:Heap}{x qual:Str}{st:Stmt}{dV:Value}{f:Addr}{fd:FuncData}{N ps:List Str}{k:Nat}{R:List Dv->Tr->Prop}(Fd:sT K x qual st dV f fd)(S:aZ N ps (aq st))(hl:∀ dd t,R dd t->dd.length=ps.length)(hb:∀ dd t,R dd t->∃ o,(o=.rt t\/(t=tn/\∃ ρ',o=.nx ρ'))/\bw (cC P w K mg base N qual (aq st) f k) (aM st) (SF N dd) o):aJ P w K mg base ak (k+1) f fd ps (spT K R):=by
 refine Fd.ok S (fun vs H Q E ⟨G,dd,t,s,h1,h2,h3⟩=>by rw[<- h1.length];exact hl dd t h2) fun bg A outer s H vs Q E hr h=>?_
 obtain⟨G,dd,t,s',h1,h2,h3⟩:=h;obtain⟨o,ho,τ,x,y⟩:=hb dd t h2;refine⟨τ,x ⟨bg,A,outer,s,H,E,hr⟩,y _ (start N vs) G H G H ⟨[],.refl s',?_,fun _ z=>(nomatch z),fun _ z=>(nomatch z),.nil⟩ ?_⟩
 ·unfold start SF;rw[<- h1.length];exact L7 h1
 ·rcases ho with rfl | ⟨rfl,ρ',rfl⟩
  ·exact fun v G1 H1 fq s1 o1 w1=>h3 v G1 H1 fq s1 o1 w1
  ·exact fun σ G1 H1 ⟨fp,r⟩=>h3 .aH G1 H1 [] r.st ⟨rfl,rfl,rfl⟩ .nil
def SG (K:Frag)(l1 l2:Addr)(xs ys:List V):It :=
 ⟨fun i H=>aL K H l1 xs/\aL K H l2 ys/\i<min xs.length ys.length,fun i H x H'=>∃ T vx vy,H T=none/\xs[i]?=some vx/\ys[i]?=some vy/\x=.ref T/\H'=upd H T (.tup [vx,vy]),fun i H=>aL K H l1 xs/\aL K H l2 ys/\i=min xs.length ys.length⟩
def vN (K:Frag)(l:Addr)(xs:List V):It :=
 ⟨fun i H=>aL K H l xs/\i<xs.length,fun i H x H'=>∃ T v,H T=none/\xs[i]?=some v/\x=.ref T/\H'=upd H T (.tup [.int (i:Nat),v]),fun i H=>aL K H l xs/\i=xs.length⟩
section
variable {X:Cx}{pins:List (Addr×Obj)}{σ:St}{H:Hp}{s:Shared}
theorem Inv.CI {t':Nat}{fs:List Addr}{h':Heap}(I:Inv X pins σ H s)(k:∀ b o,b ∉ fs->s.heap.get? b=some o->h'.get? b=some o)(hf:∀ b ∈ fs,jf X pins H b):Inv X pins σ H { s with heap:=h',toks:=t' }:=by
 have nL:∀ b u,H b=some u->b ∉ fs:=fun b u e z=>by rw[(hf b z).1]at e;cases e
 refine I.step (g':=s.gens) (d':=s.drawn) (ch:=fs) (fun b hb=>?_) (fun b o _ _ hc e _=>k b o hc e) (fun b o _ _ hc e _=>⟨o.slots,k b o hc e⟩) (fun _ _ _ _ n=>n)
  (fun b o hc e=>⟨o,k b o hc e⟩) (fun _ _ e=>e) (fun _ _ _ e=>e) (fun b ps e=>⟨#[],by rw[e];simp⟩) (fun m hm=>?_) (fun b u e=>?_) I.bare
 ·obtain⟨f0,f1,f2,f3,f4,f5⟩:=hf b hb;exact⟨f3,f1,f4,f5⟩
 ·obtain⟨o,es,ep,ho,r⟩:=hm;exact⟨o,es,ep,k _ o (fun z=>(hf _ z).2.1 rfl) ho,r⟩
 ·refine(I.aA b u e).lX (fun c v hc q=>k c v ?_ q) (fun _ q=>q) fun _ _ q=>q
  rcases hc with z | z
  ·rw[z];exact nL b u e
  ·exact nL c _ z
theorem Inv.NM {t':Nat}{fs:List Addr}{h':Heap}{T:Addr}{vs:List V}(I:Inv X pins σ H s)(k:∀ b o,b ∉ fs->s.heap.get? b=some o->h'.get? b=some o)(hf:∀ b ∈ fs,jf X pins H b)(hT:s.heap.objs.size<=T)(new:cv X.prog X.w (upd H T (.tup vs)) h' T (.tup vs)):Inv X pins σ (upd H T (.tup vs)) { s with heap:=h',toks:=t' }:=by
 have hn:H T=none:=I.aA.fresh hT;have nL:∀ b u,H b=some u->b ∉ fs:=fun b u e z=>by rw[(hf b z).1]at e;cases e
 have ne:∀ b o,s.heap.get? b=some o->b ≠ T:=fun b o e z=>by subst z;exact absurd (AS (xy e) hT) (YI _)
 refine I.step (g':=s.gens) (d':=s.drawn) (ch:=fs) (fun b hb=>?_) (fun b o _ _ hc e _=>k b o hc e) (fun b o _ _ hc e _=>⟨o.slots,k b o hc e⟩) (fun b o _ e n=>by rw[aQ (ne b o e)];exact n)
  (fun b o hc e=>⟨o,k b o hc e⟩) (fun _ _ e=>by rw[aQ (jP e hn)];exact e) (fun _ _ _ e=>by rw[aQ (jP e hn)];exact e) (fun b ps e=>⟨#[],by rw[aQ (jP e hn),e];simp⟩) (fun m hm=>?_) (fun b u e=>?_) I.bare
 ·obtain⟨f0,f1,f2,f3,f4,f5⟩:=hf b hb;exact⟨f3,f1,f4,f5⟩
 ·obtain⟨o,es,ep,ho,r⟩:=hm;exact⟨o,es,ep,k _ o (fun z=>(hf _ z).2.1 rfl) ho,r⟩
 ·by_cases hb:b=T
  ·subst hb;rw[bO]at e;cases e;exact new
  ·rw[aQ hb]at e;refine(I.aA b u e).lX (fun c v hc q=>k c v ?_ q) (fun c q=>by rw[aQ (jP q hn)];exact q) fun c xs q=>by rw[aQ (jP q hn)];exact q
   rcases hc with z | z
   ·rw[z];exact nL b u e
   ·exact nL c _ z
end
theorem Yn {P:Program}{w:World}{K:Frag}{elts:List Expr}{kk:Nat}{pos:Pos}{z TI TO i1 i2 l1 l2:Addr}{xs ys:List V}(D:ZipApart z TI TO i1 i2 l1 l2) :
  Turn P w K (.Tuple elts kk pos) (SG K l1 l2 xs ys) [z,TI,TO,i1,i2] z (fun i h=>IsZip h z TI TO .none/\IsPair h TI (.ref i1) (.ref i2)/\(∃ a b,IsPair h TO a b)/\h.IsListIter i1 l1 i/\h.IsListIter i2 l2 i) where
 mem:=by simp
 obj:=by
  rintro i h ⟨h1,h2,⟨a,c,h3⟩,⟨o1,h4,_,h5⟩,⟨o2,h6,_,h7⟩⟩ b hb;simp only[gr,Sk,akV]at hb;rcases hb with rfl | rfl | rfl | rfl | rfl
  ·exact⟨_,h1,fun v z=>by cases z⟩
  ·exact⟨_,h2,fun v z=>by cases z⟩
  ·exact⟨_,h3,fun v z=>by cases z⟩
  ·exact⟨_,h4,fun v z=>by rw[h5]at z;cases z⟩
  ·exact⟨_,h6,fun v z=>by rw[h7]at z;cases z⟩
 keep:=by
  rintro i h h' ⟨h1,h2,⟨a,c,h3⟩,h4,h5⟩ k;exact⟨k _ (by simp) _ h1,k _ (by simp) _ h2,⟨a,c,k _ (by simp) _ h3⟩,h4.at fun o e=>k _ (by simp) o e,h5.at fun o e=>k _ (by simp) o e⟩
 item:=by
  intro X hP hw hK hc i pins s σ H E I hf st hg;subst hP hw hK;obtain⟨kn,vO,aT⟩:=hg;obtain⟨jk,ko,p1,pS⟩:=I.list kn;obtain⟨hU,vP,p2,zt⟩:=I.list vO;have e1:=ko.length;have e2:=vP.length;have W:=WalksT.zip2 (prog:=X.prog) (w:=X.w) (A:=X.A) (I.ok.hd hc) z TI TO i1 i2 l1 l2 D jk.toArray hU.toArray;refine W.item i s _ _ (by simp;omega) ⟨st.1,st.2.1,st.2.2.1,st.2.2.2.1,st.2.2.2.2,p1.isList,p2.isList⟩ fun T vals h' tk Gk pT E9 u3 hk=>⟨.ref T,rfl,W.go elts kk pos i T _ _ _ u3 fun Gm nF u5=>?_⟩
  obtain⟨x,y,hx,hy,rfl⟩:=Gk;have pU:xs[i]?=some (xs[i]'(by omega)):=ab _;have SH:ys[i]?=some (ys[i]'(by omega)):=ab _;obtain⟨u,hu,ru⟩:=ko.get pU;obtain⟨u',bh,ru'⟩:=vP.get SH;have ex:x=u:=by
   have:jk[i]?=some x:=by simpa using hx
   rw[hu]at this;exact(xw this).symm
  have ey:y=u':=by
   have:hU[i]?=some y:=by simpa using hy
   rw[bh]at this;exact(xw this).symm
  subst ex ey;have sub:∀ b ∈ [z,TO,i1,i2],b ∈ [z,TI,TO,i1,i2]:=fun b hb=>by
   simp only[gr,Sk,akV]at hb ⊢;rcases hb with rfl | rfl | rfl | rfl<;>simp
  have Gn:IsTup Gm T [x,y].toArray:=E9.at fun o e=>u5 T o (W.apart i T _ u3) e
  refine⟨.ref T,upd H T (.tup [xs[i]'(by omega),ys[i]'(by omega)]),I.NM (fs:=[z,TO,i1,i2]) (fun b o hb e=>u5 b o hb (hk b o hb e)) (fun b hb=>hf b (sub b hb)) pT ⟨by show 2<=sizeLine;decide,[x,y],.cons ru (.cons ru' .nil),Gn⟩,rfl,
   ⟨T,_,_,I.aA.fresh pT,pU,SH,rfl,rfl⟩,⟨nF.1,nF.2.1,nF.2.2.1,nF.2.2.2.1,nF.2.2.2.2.1⟩,fun b hb=>?_⟩
  obtain⟨o,eo,_⟩:∃ o,s.heap.get? b=some o/\True:=by
   obtain⟨g1,g2,⟨a,c,g3⟩,⟨o1,g4,_⟩,⟨o2,g6,_⟩⟩:=st;simp only[gr,Sk,akV]at hb;rcases hb with rfl | rfl | rfl | rfl | rfl
   ·exact⟨_,g1,trivial⟩
   ·exact⟨_,g2,trivial⟩
   ·exact⟨_,g3,trivial⟩
   ·exact⟨_,g4,trivial⟩
   ·exact⟨_,g6,trivial⟩
  rw[aQ (Co (AS (xy eo) pT))];exact(hf b hb).1
 done:=by
  intro X hP hw hK hc i pins s σ H E I hf st hg;subst hP hw hK;obtain⟨kn,vO,rfl⟩:=hg;obtain⟨jk,ko,p1,pS⟩:=I.list kn;obtain⟨hU,vP,p2,zt⟩:=I.list vO;have e1:=ko.length;have e2:=vP.length;have W:=WalksT.zip2 (prog:=X.prog) (w:=X.w) (A:=X.A) (I.ok.hd hc) z TI TO i1 i2 l1 l2 D jk.toArray hU.toArray;have en:min jk.toArray.size hU.toArray.size=min xs.length ys.length:=by simp only[uu];omega
  refine W.done s _ _ (by rw[en];exact⟨st.1,st.2.1,st.2.2.1,st.2.2.2.1,st.2.2.2.2,p1.isList,p2.isList⟩) fun h' tk hk=>⟨rfl,I.CI (fs:=[z,TO,i1,i2]) hk fun b hb=>hf b ?_⟩
  simp only[gr,Sk,akV]at hb ⊢;rcases hb with rfl | rfl | rfl | rfl<;>simp
 self:=fun A i s Q E st h=>wpAny_pyIter_zip st.1 h
theorem XC {P:Program}{w:World}{K:Frag}{elts:List Expr}{kk:Nat}{pos:Pos}{e it l:Addr}{xs:List V}(SJ:e ≠ it)(hle:l ≠ e)(SK:l ≠ it) :
  Turn P w K (.Tuple elts kk pos) (vN K l xs) [e,it] e (fun i h=>(∃ old,IsEnum h e it i old)/\h.IsListIter it l i) where
 mem:=by simp
 obj:=by
  rintro i h ⟨⟨old,h1⟩,⟨o1,h4,_,h5⟩⟩ b hb;simp only[gr,Sk,akV]at hb;rcases hb with rfl | rfl
  ·exact⟨_,h1,fun v z=>by cases z⟩
  ·exact⟨_,h4,fun v z=>by rw[h5]at z;cases z⟩
 keep:=by
  rintro i h h' ⟨⟨old,h1⟩,h4⟩ k;exact⟨⟨old,k _ (by simp) _ h1⟩,h4.at fun o e=>k _ (by simp) o e⟩
 item:=by
  intro X hP hw hK hc i pins s σ H E I hf st hg;subst hP hw hK;obtain⟨kn,aT⟩:=hg;obtain⟨jk,ko,p1,pS⟩:=I.list kn;have e1:=ko.length;have W:=WalksT.enumerate (prog:=X.prog) (w:=X.w) (A:=X.A) (I.ok.hd hc) e it l SJ hle SK jk.toArray;refine W.item i s _ _ (by simp;omega) ⟨st.1,st.2,p1.isList⟩ fun T vals h' tk Gk pT E9 u3 hk=>⟨.ref T,rfl,W.go elts kk pos i T _ _ _ u3 fun Gm nF u5=>?_⟩
  obtain⟨t,x,hx,rfl⟩:=Gk;have pU:xs[i]?=some (xs[i]'(by omega)):=ab _;obtain⟨u,hu,ru⟩:=ko.get pU;have ex:x=u:=by
   have:jk[i]?=some x:=by simpa using hx
   rw[hu]at this;exact(xw this).symm
  subst ex;have Gn:IsTup Gm T [Value.int (i:Nat) t,x].toArray:=E9.at fun o e=>u5 T o (W.apart i T _ u3) e
  refine⟨.ref T,upd H T (.tup [.int (i:Nat),xs[i]'(by omega)]),I.NM (fs:=[e,it]) (fun b o hb e=>u5 b o hb (hk b o hb e)) hf pT ⟨by show 2<=sizeLine;decide,[.int (i:Nat) t,x],.cons ⟨t,rfl⟩ (.cons ru .nil),Gn⟩,rfl,
   ⟨T,_,I.aA.fresh pT,pU,rfl,rfl⟩,⟨nF.1,nF.2.1⟩,fun b hb=>?_⟩
  obtain⟨o,eo,_⟩:∃ o,s.heap.get? b=some o/\True:=by
   obtain⟨⟨old,g1⟩,⟨o1,g4,_⟩⟩:=st;simp only[gr,Sk,akV]at hb;rcases hb with rfl | rfl
   ·exact⟨_,g1,trivial⟩
   ·exact⟨_,g4,trivial⟩
  rw[aQ (Co (AS (xy eo) pT))];exact(hf b hb).1
 done:=by
  intro X hP hw hK hc i pins s σ H E I hf st hg;subst hP hw hK;obtain⟨kn,rfl⟩:=hg;obtain⟨jk,ko,p1,pS⟩:=I.list kn;have e1:=ko.length;have W:=WalksT.enumerate (prog:=X.prog) (w:=X.w) (A:=X.A) (I.ok.hd hc) e it l SJ hle SK jk.toArray;have en:jk.toArray.size=xs.length:=by simp only[uu];omega
  exact W.done s _ _ (by rw[en];exact⟨st.1,st.2,p1.isList⟩) fun h' tk hk=>⟨rfl,I.CI (fs:=[e,it]) hk hf⟩
 self:=fun A i s Q E st h=>by
  obtain⟨⟨old,h1⟩,_⟩:=st;exact wpAny_pyIter_enum h1 h
def Fb (K:Frag)(ta:TA):TI:=fun σ H R=>ta σ H fun vs H1=>∃ l1 l2 xs ys,vs=[.ref l1,.ref l2]/\aL K H1 l1 xs/\aL K H1 l2 ys/\R (SG K l1 l2 xs ys) H1
def QR (K:Frag)(ta:TA):TI:=fun σ H R=>ta σ H fun vs H1=>∃ l xs,vs=[.ref l]/\aL K H1 l xs/\R (vN K l xs) H1
section
variable {X:Cx}{elts:List Expr}{kk:Nat}{tp:Pos}
theorem OX {a b:Expr}{ta:TA}{p pos:Pos}(hg:Gl X "zip")(hm:X.mg "zip" = none)(ha:PA X [a,b] ta)(hs:starEach [a,b] X.env=[(false,eval a X.env),(false,eval b X.env)]:=by rfl)(cL:starEach [b] X.env=[(false,eval b X.env)]:=by rfl) :
  PI X (.Tuple elts kk tp) (.Call (.Name "zip" p) [a,b] [] pos) (Fb X.K ta):=by
 intro pins s σ H R I h;refine Call_ (oI I hg hm aaH (OE (aD (ha pos pins s σ H _ I h) fun us s1 ⟨vs,H1,I1,r1,q1⟩=>?_) (by rw[hs,cL]) (by rw[cL];rfl)));obtain⟨l1,l2,xs,ys,rfl,kn,vO,q⟩:=q1;obtain⟨u1,u2,rfl,c1,c2⟩:=r1.two;cases c1;cases c2;obtain⟨jk,ko,p1,pS⟩:=I1.list kn;obtain⟨hU,vP,p2,zt⟩:=I1.list vO;have zu:l1<s1.heap.objs.size:=by obtain⟨o,n,e,_⟩:=p1;exact xy e
 have vH:l2<s1.heap.objs.size:=by obtain⟨o,n,e,_⟩:=p2;exact xy e
 refine call_zip_2 p1.isList p2.isList fun h' hz hTI hTO hi1 hi2 hsz hk=>wpAny_pyIter_zip hz ?_
 have I2:Inv X pins σ H1 { s1 with heap:=h' }:=I1.kept (t':=s1.toks) hk;refine⟨s1.heap.objs.size+4,[s1.heap.objs.size+4,s1.heap.objs.size+2,s1.heap.objs.size+3,s1.heap.objs.size,s1.heap.objs.size+1],_,_,H1,rfl,I2,Yn (PySem.W.ktu_apart _ _ _ zu vH),⟨hz,hTI,⟨_,_,hTO⟩,hi1,hi2⟩,fun b hb=>?_,q⟩;have dQ:s1.heap.objs.size<=b:=by
  simp only[gr,Sk,akV]at hb;rcases hb with rfl | rfl | rfl | rfl | rfl<;>omega
 obtain⟨f0,f1,f2,f3,f4,f5⟩:=I1.uW (H':=H1) dQ (I1.aA.fresh dQ);exact⟨f0,f1,f2,f3,f4,f5⟩
theorem NN {a:Expr}{ta:TA}{p pos:Pos}(hg:Gl X "enumerate")(hm:X.mg "enumerate" = none)(ha:PA X [a] ta)(hs:starEach [a] X.env=[(false,eval a X.env)]:=by rfl) :
  PI X (.Tuple elts kk tp) (.Call (.Name "enumerate" p) [a] [] pos) (QR X.K ta):=by
 intro pins s σ H R I h;refine Call_ (oI I hg hm V6 (OE (aD (ha pos pins s σ H _ I h) fun us s1 ⟨vs,H1,I1,r1,q1⟩=>?_) hs rfl));obtain⟨l,xs,rfl,kn,q⟩:=q1;obtain⟨u1,rfl,c1⟩:=r1.one;cases c1;obtain⟨jk,ko,p1,pS⟩:=I1.list kn;have zu:l<s1.heap.objs.size:=by obtain⟨o,n,e,_⟩:=p1;exact xy e
 refine call_enumerate_list p1.isList fun h' hE hI hsz hk=>wpAny_pyIter_enum hE ?_
 have I2:Inv X pins σ H1 { s1 with heap:=h' }:=I1.kept (t':=s1.toks) hk;refine⟨s1.heap.objs.size+1,[s1.heap.objs.size+1,s1.heap.objs.size],_,_,H1,rfl,I2,XC (Nat.succ_ne_self _) (PySem.W.ktu_ne 1 zu) (Co zu),⟨⟨_,hE⟩,hI⟩,fun b hb=>?_,q⟩;have dQ:s1.heap.objs.size<=b:=by
  simp only[gr,Sk,akV]at hb;rcases hb with rfl | rfl<;>omega
 obtain⟨f0,f1,f2,f3,f4,f5⟩:=I1.uW (H':=H1) dQ (I1.aA.fresh dQ);exact⟨f0,f1,f2,f3,f4,f5⟩
end
section
variable {ι:Type}{F:bc ι}{a b tg:Expr}{ρ:En}{ta tb':Tr}{elts:List Expr}{kk:Nat}{tp pos:Pos}
def yU (xs ys:List Dv):List Dv:=List.zipWith (fun x y=>.tup [x,y]) xs ys
def hZ (xs:List Dv):List Dv:=(List.range xs.length).zipWith (fun k x=>.tup [di (k:Nat),x]) xs
theorem NP {xs ys:List Dv}(hm:F.mg "zip" = none)(ha:Ev F a ρ ta)(hb:Ev F b ρ tb')(ea:er ta=.lst xs)(eb:er tb'=.lst ys){p:Pos}(hg:∀ i,Gl (F.cx i) "zip" := by intro _;rfl)(hs:∀ i,starEach [a,b] (F.cx i).env=[(false,eval a (F.cx i).env),(false,eval b (F.cx i).env)]:=by intro _;rfl)(cL:∀ i,starEach [b] (F.cx i).env=[(false,eval b (F.cx i).env)]:=by intro _;rfl) :
  bp F (.Tuple elts kk tp) (.Call (.Name "zip" p) [a,b] [] pos) ρ (yU xs ys):=by
 obtain⟨τ,p,q⟩:=(aj ha (aj hb aw cL) (fun i=>by rw[hs i,cL i])).use;refine⟨Fb F.K τ,fun i=>F.hK i ▸ OX (hg i) ((F.hm i).symm ▸ hm) (p i) (hs i) (cL i),fun σ G H R s r k=>q σ G H _ s r fun vs G1 H1 s1 hx=>?_⟩;obtain⟨x,y,rfl,h1,h2⟩:=E6 hx;rw[ea]at h1;rw[eb]at h2;obtain⟨l1,us,rfl,g1,g2⟩:=h1;obtain⟨l2,ws,rfl,g3,g4⟩:=h2;have e1:=g2.length;have e2:=g4.length;refine⟨l1,l2,us,ws,rfl,s1.s.seq g1,s1.s.seq g3,k _ G1 H1 s1 fun j G2 H2 sg sh=>⟨fun d hd=>?_,fun hz=>?_⟩⟩
 ·unfold yU at hd;rw[RI]at hd;cases qx:xs[j]? with
  |none=>rw[qx]at hd;cases hd
  |some dx =>
   cases qy:ys[j]? with
   |none=>rw[qx,qy]at hd;cases hd
   |some dy =>
    rw[qx,qy]at hd;cases hd;obtain⟨vx,x1,x2⟩:=g2.get qx;obtain⟨vy,y1,y2⟩:=g4.get qy;have lx:j<us.length:=(ir.mp x1).1;have ly:j<ws.length:=(ir.mp y1).1;refine⟨⟨(sg.trans sh).seq g1,(sg.trans sh).seq g3,by omega⟩,?_⟩;rintro x H3 ⟨T,wx,wy,hT,z1,z2,rfl,rfl⟩;rw[x1]at z1;rw[y1]at z2;cases z1;cases z2;refine⟨_,.new sh hT,T,_,rfl,cW.of bO,_,_,rfl,(x2.mono sg).mono (au.new (sh.free hT)),_,_,rfl,(y2.mono sg).mono (au.new (sh.free hT)),rfl⟩
 ·refine⟨(sg.trans sh).seq g1,(sg.trans sh).seq g3,?_⟩;rw[hz];unfold yU;rw[ajB,e1,e2]
theorem iU {xs:List Dv}(hm:F.mg "enumerate" = none)(ha:Ev F a ρ ta)(ea:er ta=.lst xs){p:Pos}(hg:∀ i,Gl (F.cx i) "enumerate" := by intro _;rfl)(hs:∀ i,starEach [a] (F.cx i).env=[(false,eval a (F.cx i).env)]:=by intro _;rfl):bp F (.Tuple elts kk tp) (.Call (.Name "enumerate" p) [a] [] pos) ρ (hZ xs):=by
 obtain⟨τ,p,q⟩:=(aj ha aw hs).use;refine⟨QR F.K τ,fun i=>F.hK i ▸ NN (hg i) ((F.hm i).symm ▸ hm) (p i) (hs i),fun σ G H R s r k=>q σ G H _ s r fun vs G1 H1 s1 hx=>?_⟩;obtain⟨x,rfl,h1⟩:=jh hx;rw[ea]at h1;obtain⟨l1,us,rfl,g1,g2⟩:=h1;have e1:=g2.length;refine⟨l1,us,rfl,s1.s.seq g1,k _ G1 H1 s1 fun j G2 H2 sg sh=>⟨fun d hd=>?_,fun hz=>?_⟩⟩
 ·unfold hZ at hd;rw[RI]at hd;cases qx:xs[j]? with
  |none =>
   rw[qx]at hd;cases q2:(List.range xs.length)[j]? with
   |none=>rw[q2]at hd;cases hd
   |some z=>rw[q2]at hd;cases hd
  |some dx =>
   have lj:j<xs.length:=(ir.mp qx).1;rw[qx,CS lj]at hd;cases hd;obtain⟨vx,x1,x2⟩:=g2.get qx;refine⟨⟨(sg.trans sh).seq g1,by omega⟩,?_⟩;rintro x H3 ⟨T,wx,hT,z1,rfl,rfl⟩;rw[x1]at z1;cases z1;exact⟨_,.new sh hT,T,_,rfl,cW.of bO,_,_,rfl,⟨rfl,rfl⟩,_,_,rfl,(x2.mono sg).mono (au.new (sh.free hT)),rfl⟩
 ·refine⟨(sg.trans sh).seq g1,?_⟩;rw[hz];unfold hZ;rw[ajB,Cf,ajE,e1]
theorem LA {n:Nat}{ds dd:List Dv}(e:Ec n (.tup ds)=some dd):ds.length=n/\dd=ds:=by
 have e':(if ds.length=n then some ds else none)=some dd:=e;by_cases h:ds.length=n
 ·rw[lp h]at e';cases e';exact⟨h,rfl⟩
 ·rw[mf h]at e';cases e'
theorem eK (j1 j2:Nat){x y:Str}{px py:Pos}(hN:∀ i,(F.cx i).N.Nodup)(h1:∀ i,(F.cx i).N[j1]?=some x:=by intro _;rfl)(h2:∀ i,(F.cx i).N[j2]?=some y:=by intro _;rfl)(hx:∀ i,Loc (F.cx i).env.scope x:=by intro _;first | exact Or.inl rfl | exact Or.inr rfl)(hy:∀ i,Loc (F.cx i).env.scope y:=by intro _;first | exact Or.inl rfl | exact Or.inr rfl)(fx:∀ i,(F.cx i).fn x=true\/(F.cx i).env.scope.names.lookup x=some .local:=by intro _;first | exact .inl rfl | exact .inr rfl)(fy:∀ i,(F.cx i).fn y=true\/(F.cx i).env.scope.names.lookup y=some .local:=by intro _;first | exact .inl rfl | exact .inr rfl) :
  jL F (.Tuple [.Name x px,.Name y py] kk tp) [j1,j2] (Ec 2) :=
 ⟨yK F.K 2 (nr (cO j1) (nr (cO j2) yJ)),fun i=>F.hK i ▸ x8 (F.calm i) (lJ (gK (hN i) (h1 i) (hx i) (fx i)) (lJ (gK (hN i) (h2 i) (hy i) (fy i)) xA)),fun d dd v σ G H Q e s h k=>by
  cases d with
  |fl _=>cases e
  |lst _=>cases e
  |tup ds =>
   obtain⟨hl,rfl⟩:=LA e;obtain⟨a,vs,rfl,q1,q2⟩:=h;have hv:vs.length=2:=by rw[<- q2.length];exact hl
   refine⟨a,vs,rfl,s.tup q1,hv,?_⟩
   match vs,hv with
   |[v1,v2],_=>exact⟨v1,[v2],rfl,v2,[],rfl,rfl,k [v1,v2] q2⟩⟩
theorem aaN (j1 j2 j3:Nat){x y z:Str}{px py pz:Pos}(hN:∀ i,(F.cx i).N.Nodup)(h1:∀ i,(F.cx i).N[j1]?=some x:=by intro _;rfl)(h2:∀ i,(F.cx i).N[j2]?=some y:=by intro _;rfl)(h3:∀ i,(F.cx i).N[j3]?=some z:=by intro _;rfl)(hx:∀ i,Loc (F.cx i).env.scope x:=by intro _;first | exact Or.inl rfl | exact Or.inr rfl)(hy:∀ i,Loc (F.cx i).env.scope y:=by intro _;first | exact Or.inl rfl | exact Or.inr rfl)(hz:∀ i,Loc (F.cx i).env.scope z:=by intro _;first | exact Or.inl rfl | exact Or.inr rfl)(fx:∀ i,(F.cx i).fn x=true\/(F.cx i).env.scope.names.lookup x=some .local:=by intro _;first | exact .inl rfl | exact .inr rfl)(fy:∀ i,(F.cx i).fn y=true\/(F.cx i).env.scope.names.lookup y=some .local:=by intro _;first | exact .inl rfl | exact .inr rfl)(fz:∀ i,(F.cx i).fn z=true\/(F.cx i).env.scope.names.lookup z=some .local:=by intro _;first | exact .inl rfl | exact .inr rfl) :
  jL F (.Tuple [.Name x px,.Name y py,.Name z pz] kk tp) [j1,j2,j3] (Ec 3) :=
 ⟨yK F.K 3 (nr (cO j1) (nr (cO j2) (nr (cO j3) yJ))),fun i=>F.hK i ▸ x8 (F.calm i) (lJ (gK (hN i) (h1 i) (hx i) (fx i)) (lJ (gK (hN i) (h2 i) (hy i) (fy i)) (lJ (gK (hN i) (h3 i) (hz i) (fz i)) xA))),fun d dd v σ G H Q e s h k=>by
  cases d with
  |fl _=>cases e
  |lst _=>cases e
  |tup ds =>
   obtain⟨hl,rfl⟩:=LA e;obtain⟨a,vs,rfl,q1,q2⟩:=h;have hv:vs.length=3:=by rw[<- q2.length];exact hl
   refine⟨a,vs,rfl,s.tup q1,hv,?_⟩
   match vs,hv with
   |[v1,v2,v3],_=>exact⟨v1,[v2,v3],rfl,v2,[v3],rfl,v3,[],rfl,rfl,k [v1,v2,v3] q2⟩⟩
theorem Zx {e:Expr}{t:Tr}{js:List Nat}{sp:Dv->Option (List Dv)}{dd:List Dv}(he:bx F e ρ t)(hg:jL F tg js sp)(hd:sp (er t)=some dd)(hj:js.all (fun j=>Nat.blt j ρ.length)=true:=by rfl)(hs:∀ i,swapsWithSole [tg] e pos.line (F.cx i).env=pure false:=by intro _;rfl)(hw:∀ i,swappedStores [tg] e (F.cx i).env=pure none:=by intro _;rfl)(h1:∀ i,(assignEach [tg] (F.cx i).env).map (·.2)=[assign tg (F.cx i).env]:=by intro _;rfl):Rn F (.Assign [tg] e pos) ρ (.nx (bT js (dd.map .fz) ρ)):=by
 obtain⟨τ,y,z⟩:=he;obtain⟨g,pg,qg⟩:=hg;refine⟨j5 τ g,fun i=>oJ (y i) (pg i) (hs i) (hw i) (h1 i),fun D σ G0 H0 G H r k=>?_⟩;obtain⟨fp,r⟩:=r;refine z σ G H fp _ r.st.s r.own r.g fun v G1 H1 fq s1 o w=>?_
 refine qg (er t) dd v σ (eu G1 H1 fq) H1 _ hd (ou s1.s) (o.hv (jy w.g) fun a ha=>iX ha) fun vs mM=>k _ (eu G1 H1 fq) H1 (RS.bT (E8 hj) mM ⟨fp,r.st.trans (s1.dP w),r.own.mono (s1.dP w).g s1.h,fun a ha=>?_,r.n,r.d⟩)
 cases q:eu G1 H1 fq a with
 |none=>rfl
 |some u =>
  obtain⟨u',bh⟩:=r.own.there a ha;have:=(s1.dP w).n a (r.g a ha) (by rw[q];exact fun z=>nomatch z);rw[bh]at this;cases this
theorem aaO (j1 j2:Nat){x y:Str}{m n:Int}{px py pt:Pos}{kt k2 pE}(ha:bx F a ρ (ti m))(hb:bx F b ρ (ti n))(hN:∀ i,(F.cx i).N.Nodup)(tq:Nat.blt j1 ρ.length=true:=by rfl)(vQ:Nat.blt j2 ρ.length=true:=by rfl)(hi:∀ i,(F.cx i).N[j1]?=some x:=by intro _;rfl)(hj:∀ i,(F.cx i).N[j2]?=some y:=by intro _;rfl)(dZ:j1 ≠ j2:=by decide)(hx:∀ i,(F.cx i).env.scope.names.lookup x=some .local:=by intro _;rfl)(hy:∀ i,(F.cx i).env.scope.names.lookup y=some .local:=by intro _;rfl)(hw:∀ i,swappedStores [.Tuple [.Name x px,.Name y py] kt pt] (.Tuple [a,b] k2 pE) (F.cx i).env=pure (some [x,y]):=by intro _;rfl)(hs:∀ i,swapsWithSole [.Tuple [.Name x px,.Name y py] kt pt] (.Tuple [a,b] k2 pE) pos.line (F.cx i).env=pure false:=by intro _;rfl)(Gp:∀ i,starEach [a,b] (F.cx i).env=(false,eval a (F.cx i).env)::starEach [b] (F.cx i).env:=by intro _;rfl)(bb:∀ i,starEach [b] (F.cx i).env=(false,eval b (F.cx i).env)::starEach [] (F.cx i).env:=by intro _;rfl) :
  Rn F (.Assign [.Tuple [.Name x px,.Name y py] kt pt] (.Tuple [a,b] k2 pE) pos) ρ (.nx ((ρ.set j1 (some (ti m))).set j2 (some (ti n)))):=by
 obtain⟨τ,y1,z1⟩:=ha;obtain⟨bY,y2,z2⟩:=hb;refine⟨QH j1 j2 (dc τ (dc bY dO)),fun i=>aap (F.calm i) (hN i) (hi i) (hj i) dZ (hx i) (hy i) (aX (y1 i) (aX (y2 i) cu (bb i)) (Gp i)) (hw i) (hs i),fun D σ G0 H0 G H r k=>?_⟩;obtain⟨fp,r⟩:=r;have key:∀ {G1 H1:Hp},Step G H G1 H1->∀ a ∈ fp,G1 a=none:=fun {G1 H1} s1 a ha=>by
  cases q:G1 a with
  |none=>rfl
  |some u =>
   obtain⟨u',bh⟩:=r.own.there a ha;have:=s1.n a (r.g a ha) (by rw[q];exact fun z=>nomatch z);rw[bh]at this;cases this
 refine z1 σ G H fp _ r.st.s r.own r.g fun v G1 H1 fq s1 o w=>z2 σ G1 H1 fp _ s1.s (r.own.mono s1.g s1.h) (key s1) fun v' G2 H2 fZ s2 o' w'=>?_
 have e1:v=.int m:=aO o.2;have e2:v'=.int n:=aO o'.2;subst e1 e2;refine⟨_,_,rfl,?_⟩;have tu:=s1.trans s2;obtain⟨fp1,r1⟩:=(⟨r.st.trans tu,r.own.mono tu.g tu.h,key tu,r.n,r.d⟩:dz F.K G0 H0 G2 H2 ρ σ fp).set (t:=ti m) (v:=.int m) (Po tq) (.refl tu.s) ⟨rfl,rfl,rfl⟩ .nil;exact k _ G2 H2 (r1.set (t:=ti n) (v:=.int n) (by rw[ET];exact Po vQ) (.refl tu.s) ⟨rfl,rfl,rfl⟩ .nil)
end
theorem MK {X:Cx}{elt tg iter:Expr}{ifs:List Expr}{sc:Scope}{cl:List (Str×Addr)}{own:List Str}{fr:List Nat}{pos kQ py:Pos}{wi:TI}{g:TG}{tt:TT}{te:TE}{y0:Str}{j0:Nat}(L:iW X sc cl fr)(hc:X.calm=true)(hi:PI X tg iter wi)(hg:∀ C s H ex pn,PG (dm X own fr sc cl C s H ex pn) tg g)(ht:∀ C s H ex pn (pins:List (Addr×Obj)) (s1:Shared) (aN:St) (H1:Hp) (Q:Bool->Hp->Prop),Inv (dm X own fr sc cl C s H ex pn) pins aN H1 s1->tt aN H1 Q ->
   wpAny (model X.prog X.w) X.A (lN ifs (compEnvC sc (cellsFrom (C+1) sc.names cl) C X.env)) (TP (dm X own fr sc cl C s H ex pn) pins aN Q) cR s1)(he:∀ C s H ex pn,PE (dm X own fr sc cl C s H ex pn) elt te)(hN0:X.N.Nodup)(hj0:X.N[j0]?=some y0)(hx0:Loc X.env.scope y0)(kj:swapsWith (.ListComp elt [⟨tg,iter,ifs,0⟩] sc pos) (some (.Name y0 py)) kQ.line X.env=pure true)(hf0:X.fn y0=true\/X.env.scope.names.lookup y0=some .local)(hs:∀ x,foldedSetIterable iter X.env x=pure x:=by intro _;rfl) :
  PS X (.Assign [.Name y0 py] (.ListComp elt [⟨tg,iter,ifs,0⟩] sc pos) kQ) (j5 (zh wi g tt te own fr) (cO j0)):=by
 intro pins s σ H D I h;rw[exec_Assign_Name_used _ _ _ _ kj];refine ff (akT (ff ?_));show wpAny _ X.A (do let _ <- comprehension (.ListComp elt [⟨tg,iter,ifs,0⟩] sc pos) sc X.env _ (newList []) false (eval iter X.env) (some (assign (.Name y0 py) X.env))) _ _ s;refine ff (ajC (wpAny_comprehension_free (use:=some (assign (.Name y0 py) X.env)) (Q:=fun _ s'=>SP X pins D .next s') rfl hs L.QL L.kind L.names (aD (hi pins s σ H _ I h) fun v s1 h1=>aD h1 fun zb s2 h2=>?_)) (fun _ s' hq=>xp (xp hq)) fun _ _ e=>e);obtain⟨it,fp,tn,J,H2,e,I2,T,bb,f2,h2⟩:=h2;subst e;refine abc ?_;have I3:Inv X pins σ (upd H2 s2.heap.objs.size (.lst [])) { s2 with heap:=s2.heap.push { cls:=.type "list",data:=.seq ([]:List Value).toArray } }:=I2.yP (t':=s2.toks) .nil (DO _);have n2:H2 s2.heap.objs.size=none:=I2.fresh;obtain⟨W,⟨m0,w0⟩,turn⟩:=h2 _ n2;have vH:∀ b ∈ fp,b<s2.heap.objs.size:=fun b hb=>by
  obtain⟨o,eo,_⟩:=T.obj 0 _ bb b hb;exact xy eo
 have d8:∀ b ∈ fp,jf X pins (upd H2 s2.heap.objs.size (.lst [])) b:=fun b hb=>⟨by rw[aQ (Co (vH b hb))];exact(f2 b hb).1,(f2 b hb).2⟩
 generalize gT:({ s2 with heap:=s2.heap.push { cls:=.type "list",data:=.seq ([]:List Value).toArray } }:Shared)=s3 at I3;have gE:tn 0 s3.heap:=by
  rw[<- gT];exact T.keep 0 _ _ bb fun b hb o eo=>Cc _ eo
 have pL:∀ b ∈ fp,b<s3.heap.objs.size:=fun b hb=>by
  obtain⟨o,eo,_⟩:=T.obj 0 _ gE b hb;exact xy eo
 generalize FQ:upd H2 s2.heap.objs.size (.lst [])=H3 at I3 d8 w0;generalize s2.heap.objs.size=acc at turn w0 FQ ⊢;refine Lh ?_;have iz:(pushCells (s3.heap.push { cls:=.type "dict",data:=.dict #[] }) sc.names).Ns s3.heap.objs.size fun _=>none:=(Heap.Ns.new s3.heap (.type "dict")).keeps (ajI _ _)
 have kp:∀ b o,s3.heap.get? b=some o->(pushCells (s3.heap.push { cls:=.type "dict",data:=.dict #[] }) sc.names).get? b=some o:=fun b o eo=>ajI _ _ b o (Cc _ eo)
 have pJ:∀ y c,(cellsFrom (s3.heap.objs.size+1) sc.names cl).lookup y=some c->cl.lookup y=some c\/(pushCells (s3.heap.push { cls:=.type "dict",data:=.dict #[] }) sc.names).IsCell c none:=fun y c e =>
  xD sc.names (s3.heap.push { cls:=.type "dict",data:=.dict #[] }) cl y c (by rw[akI];exact e)
 generalize hh4:pushCells (s3.heap.push { cls:=.type "dict",data:=.dict #[] }) sc.names=h4 at iz kp pJ;have I4:=lcInv (own:=own) (tk:=s3.toks) L I3 d8 pL iz kp pJ;have vJ:tn 0 h4:=T.keep 0 _ _ gE fun b hb o eo=>kp b o eo
 have stat:∀ {H':Hp},(∀ b ∈ fp,H' b=none)->∀ b ∈ fp,jf (dm X own fr sc cl s3.heap.objs.size s3 H3 fp (X.pn++pins)) [] H' b:=fun {H'} hn b hb =>
  ⟨hn b hb,Co (pL b hb),fun z=>(gr.mp (I3.uB b z)).elim (d8 b hb).2.1 (d8 b hb).2.2.1,.inl hb,fun y c e=>(t7 _ _ _ y c e).elim (fun q=>(d8 b hb).2.2.2.2.1 y c (L.sub y c q)) fun q=>aj1 (AS (pL b hb) (aiX q.1)),fun p hp=>(d8 b hb).2.2.2.2.2 p (by
   have z:p ∈ (X.pn++pins)++[]:=hp;simpa using z)⟩
 have loop:codeAny (model X.prog X.w) X.A (.compLoop (.ListComp elt [⟨tg,iter,ifs,0⟩] sc pos) 0 (.ref it) (.ref acc) (compEnvC sc (cellsFrom (s3.heap.objs.size+1) sc.names cl) s3.heap.objs.size X.env))
   (compPost (model X.prog X.w) X.A X.xe (some (assign (.Name y0 py) X.env)) (fun _ s'=>SP X pins D .next s') (.ref acc) s3.heap.objs.size) { s3 with heap:=h4,toks:=s3.toks }:=by
  refine OL (fun n s'=>∃ i ys aN H1,Inv (dm X own fr sc cl s3.heap.objs.size s3 H3 fp (X.pn++pins)) [] aN H1 s'/\tn i s'.heap/\(∀ b ∈ fp,H1 b=none)/\W i n ys aN H1) ?_ m0 ⟨0,[],_,H3,I4,vJ,fun b hb=>(d8 b hb).1,w0⟩;rintro n s5 ⟨i,ys,mH,H5,I5,mF,pG,w5⟩;obtain⟨fe,hlen,hh⟩:=turn i n ys mH H5 w5;rcases hh with⟨stop,qn⟩ | ⟨go,N,hN,step⟩
  ·refine aD (T.done (dm X own fr sc cl s3.heap.objs.size s3 H3 fp (X.pn++pins)) rfl rfl rfl hc i [] s5 mH H5 cR I5 (stat pG) mF stop) fun r s6 ⟨hr,I6⟩=>?_
   subst hr;obtain⟨m6,FR,_⟩:=id I6.loc;have back:∀ h7,Heap.SameBut s3.heap.objs.size s6.heap h7->Inv X pins σ H5 { s6 with heap:=h7 }:=fun h7 mI=>by
    have old:∀ b o,s3.heap.get? b=some o->b ≠ s3.heap.objs.size:=fun b o eo=>Co (xy eo)
    have u6:Un (eA X.stack) fp H3 H5 s3.heap s6.heap:=I6.base;have u7:Un (eA X.stack) fp H3 H5 s3.heap h7 :=
     ⟨fun b o eo nn hb hx=>(mI.2 b (old b o eo)).trans (u6.keep b o eo nn hb hx),fun b o eo nn hb hx=>by
      obtain⟨sl,q⟩:=u6.slot b o eo nn hb hx;exact⟨sl,(mI.2 b (old b o eo)).trans q⟩,u6.free,fun b o eo hx=>by
      obtain⟨o',q⟩:=u6.there b o eo hx;exact⟨o',(mI.2 b (old b o eo)).trans q⟩,u6.kO,u6.jZ,u6.kP⟩
    have fC:H5 s3.heap.objs.size=none:=I6.free;have E5:cA X.prog X.w H5 h7:=fun b ob eb=>by
     refine(I6.aA b ob eb).lX (fun c w' jJ q=>(mI.2 c ?_).trans q) (fun _ q=>q) fun _ _ q=>q
     rintro rfl;rcases jJ with z | z
     ·rw[<- z,fC]at eb;cases eb
     ·rw[fC]at z;cases z
    exact I3.PQ (s':={ s6 with heap:=h7 }) I6.os u7 E5 I6.bare fun b hb=>⟨(d8 b hb).2.2.2.1,(d8 b hb).2.1,(d8 b hb).2.2.2.2.1,(d8 b hb).2.2.2.2.2⟩
   have fC0:H5 s3.heap.objs.size=none:=I6.free;show wpAny _ _ (assign (.Name y0 py) X.env (.ref acc)) _ X.xe s6;refine wpAny_assign_Name (LU (v:=.ref acc) (back s6.heap (Heap.SameBut.refl ..)) hN0 hj0 hx0 rfl (fun s7 I7 ⟨a,sb,ha⟩=>?_) hf0);have aC:s3.heap.objs.size ≠ a:=by
    rcases ha with rfl | ha
    ·exact aj1 I3.lt
    ·obtain⟨v0,q0⟩:=I3.cell y0 a ha;exact aj1 q0.lt
   refine⟨m6,FR.sameBut sb aC,fun h8 sb8=>⟨_,H5,?_,qn⟩⟩;exact Inv.CI (t':=s7.toks) (fs:=[s3.heap.objs.size]) I7 (fun b o hb e=>(sb8.2 b (fun z=>hb (by rw[z];exact .head _))).trans e) (fun b hb=>by
    rw[rf.mp hb];exact I3.uW (H':=H5) (br _) fC0)
  ·refine aD (T.item (dm X own fr sc cl s3.heap.objs.size s3 H3 fp (X.pn++pins)) rfl rfl rfl hc i [] s5 mH H5 cR I5 (stat pG) mF go) fun r s6 ⟨u,hr,h6⟩=>?_
   subst hr;refine aD h6 fun _ s7 ⟨x,H7,I7,r7,y7,pM,FT⟩=>?_
   have FU:=I7.pinned (stat FT) (T.obj _ _ pM);refine aD (hg _ _ _ _ _ _ s7 mH H7 x u _ FU r7 (step x H7 y7)) fun _ s8 ⟨mJ,H8,I8,q8⟩=>?_
   have again:∀ {zs:List V} {kg:St} {H9:Hp} {s9:Shared},Inv (dm X own fr sc cl s3.heap.objs.size s3 H3 fp (X.pn++pins)) ([]++r9 fp s7.heap) kg H9 s9->N zs kg H9 ->
     ∃ m,m<n/\∃ i ys aN H1,Inv (dm X own fr sc cl s3.heap.objs.size s3 H3 fp (X.pn++pins)) [] aN H1 s9/\tn i s9.heap/\(∀ b ∈ fp,H1 b=none)/\W i m ys aN H1:=fun {zs kg H9 s9} I9 n9=>by
    obtain⟨m',hm,w9⟩:=hN zs kg H9 n9;refine⟨m',hm,i+1,zs,kg,H9,I9.t9,T.keep _ _ _ pM fun b hb o e=>(I9.pin (b,o) (ij _ (ij _ (qV hb e)))).1,fun b hb=>?_,w9⟩;obtain⟨o,e,d⟩:=T.obj _ _ pM b hb;exact(I9.pin (b,o) (ij _ (ij _ (qV hb e)))).2.1
   refine aD (ht _ _ _ _ _ _ s8 mJ H8 _ I8 q8) fun ok s9 ⟨H9,I9,q9⟩=>?_
   cases ok with
   |false=>exact again I9 (by simpa using q9)
   |true =>
    refine aD (he _ _ _ _ _ _ s9 mJ H9 _ I9 q9) fun z FV ⟨y,FW,FX,FY,pN,FZ⟩=>?_
    refine aD (t6 _ FV mJ FW (.ref acc) [y] (.ref acc) [z] (fun _ H'=>N (ys++[y]) mJ H') FX rfl (.cons FY .nil) ⟨acc,ys,y,rfl,rfl,pN,hlen,FZ⟩) fun _ s11 ⟨_,H11,F0,_,Ge⟩=>again F0 Ge
 rw[<- gT]at loop ⊢;exact codeAny_compStart_list loop (FP (T.self _ 0 _ _ _ vJ (by rw[gT];rw[gT]at loop;exact loop)))
section
variable {ι:Type}{F:bc ι}{elt tg iter:Expr}{ifs:List Expr}{sc:Scope}{own:List Str}{fr:List Nat}{cl : ι->List (Str×Addr)}{ρ:En}{t:Tr}{pos kQ py:Pos}
theorem j6 (h:dD F own fr sc cl elt tg iter ifs ρ t):∃ τ,zp F own fr sc cl elt tg iter ifs τ/\∀ σ G H fp Q,au G H->aK F.K G H ρ σ fp->(∀ a ∈ fp,G a=none)->Kv F.K G H t Q->τ σ H Q :=
 let ⟨τ,v,y⟩:=h;⟨τ,v,fun σ G H fp Q s r _ k=>y σ G H Q s r.gG k⟩
theorem QS (h:dD F own fr sc cl elt tg iter ifs (pk ρ) t)(c:Cl t):∃ τ,zp F own fr sc cl elt tg iter ifs τ/\∀ σ G H fp Q,au G H->aK F.K G H ρ σ fp->(∀ a ∈ fp,G a=none)->Kv F.K G H t Q->τ σ H Q:=by
 obtain⟨τ,x,y⟩:=h;refine⟨τ,x,fun σ G H fp Q s r hg k=>?_⟩;refine y σ (eu G H fp) H Q (ou s) (r.pk (jy hg) fun a ha=>iX ha) fun v G' H' fq st o w=>?_
 refine k v G H' fq ⟨au.refl _,st.h,s.trans st.h,fun a h h'=>absurd h h'⟩ (o.cl c) ⟨w.n,fun a ha=>s.free (w.n a ha),w.d⟩
theorem i5 (j:Nat){x:Str}(h:∃ τ,zp F own fr sc cl elt tg iter ifs τ/\∀ σ G H fp Q,au G H->aK F.K G H ρ σ fp->(∀ a ∈ fp,G a=none)->Kv F.K G H t Q->τ σ H Q)(L:∀ i,iW (F.cx i) sc (cl i) fr)(hN:∀ i,(F.cx i).N.Nodup)(hj:Nat.blt j ρ.length=true:=by rfl)(hi:∀ i,(F.cx i).N[j]?=some x:=by intro _;rfl)(hx:∀ i,Loc (F.cx i).env.scope x:=by intro _;first | exact Or.inl rfl | exact Or.inr rfl)(kj:∀ i,swapsWith (.ListComp elt [⟨tg,iter,ifs,0⟩] sc pos) (some (.Name x py)) kQ.line (F.cx i).env=pure true:=by intro _;rfl)(hf:∀ i,(F.cx i).fn x=true\/(F.cx i).env.scope.names.lookup x=some .local:=by intro _;first | exact .inl rfl | exact .inr rfl)(hs:∀ i x,foldedSetIterable iter (F.cx i).env x=pure x:=by intro _ _;rfl) :
  Rn F (.Assign [.Name x py] (.ListComp elt [⟨tg,iter,ifs,0⟩] sc pos) kQ) ρ (.nx (ρ.set j (some t))):=by
 obtain⟨τ,⟨wi,g,tt,te,rfl,h1,h2,h3,h4⟩,z⟩:=h;refine⟨_,fun i=>MK (cl:=cl i) (L i) (F.calm i) (h1 i) (fun C s H ex pn=>h2 (i,⟨C,s,H,ex,pn⟩)) (fun C s H ex pn=>h3 (i,⟨C,s,H,ex,pn⟩)) (fun C s H ex pn=>h4 (i,⟨C,s,H,ex,pn⟩)) (hN i) (hi i) (hx i) (kj i) (hf i) (hs i),fun D σ G0 H0 G H r k=>?_⟩;obtain⟨fp,r⟩:=r;exact z σ G H fp _ r.st.s r.own r.g fun v G1 H1 fq s1 o w=>k _ G1 H1 (r.set (Po hj) s1 o w)
theorem dD.as {d:Dv}(h:dD F own fr sc cl elt tg iter ifs ρ t)(e:er t=d):dD F own fr sc cl elt tg iter ifs ρ (.fz d):=by
 obtain⟨τ,v,q⟩:=h;refine⟨τ,v,fun σ G H Q s r k=>q σ G H Q s r fun v G' H' fq st o w=>?_⟩;exact k v (eu G' H' fq) H' [] (st.dP w) ⟨rfl,e ▸ o.hv (jy w.g) fun a ha=>iX ha⟩ .nil
theorem dD.to {t':Tr}(h:dD F own fr sc cl elt tg iter ifs ρ t)(e:t=t'):dD F own fr sc cl elt tg iter ifs ρ t':=e ▸ h
end
def yf (K:Frag):V->List V->Hp->VK->Prop:=fun x vs H Q=>∃ l xs y,x=.ref l/\vs=[y]/\aL K H l xs/\fE y=true/\xs.all fE=true/\Q (.int (xs.countP fun z=>dw z y)) H
theorem LC {x:V}:∀ {xs:List V} {us:List Value},Vals xs us->xs.all fE=true->us.countP (gF x)=xs.countP fun y=>dw y x
 |_,_,.nil,_=>rfl
 |y::xs,u::us,.cons r t,f=>by
  rw[ajn,BS]at f;rw[Lo,Lo,LC t f.2,Di r f.1]
section
variable {X:Cx}
theorem B9:zf X "list.count" (yf X.K):=by
 intro pins s σ H x vs v us Q I rx rv h;obtain⟨l,xs,y,rfl,rfl,hq,fy,fs,q⟩:=h;cases rx;obtain⟨u,rfl,ru⟩:=rv.one;obtain⟨its,r,⟨⟨cl,dd,da,sl⟩,n,e,c1,c2,d1⟩,z⟩:=I.list hq;simp only at c1 d1;subst c1 d1;refine akN F.slot_list_count ⟨_,e,rfl⟩ F.entry_list_count (F.args_list_count_2 _ _) (SeqAt.list_countAt l its.toArray n dd sl u (gF y)) ⟨e,fun w hw=>rC ru fy r fs w (by simpa using hw),?_⟩;refine⟨.int _,H,I.tok _,⟨_,rfl⟩,?_⟩;rw[show its.toArray.toList=its by simp,LC r fs];exact q
end
section
variable {ι:Type}{F:bc ι}{e a b c:Expr}{es:List Expr}{ρ:En}{t ta tb' tc:Tr}{ts:List Tr}{pos:Pos}
theorem Lq (n:Int):∀ ns:LI,(ns.map V.int).countP (fun z=>dw z (.int n))=ns.count n
 |[] => rfl
 |m::ms=>by
  rw[i8,Lo,Lq n ms,OK]
  rfl
theorem Ed {nm:Str}{id:String}{r:V->List V->Hp->VK->Prop}{xs:List Dv}{o:Expr}{to:Tr}(slot:Slot "list" nm id)(FK:typeOf (.builtin id)=pure (.type "method_descriptor"))(hm:∀ i,Ss (F.cx i) id r)(ho:Ev F o ρ to)(eo:er to=.lst xs)(ha:jt F (e::es) ρ ts)(h:∀ G H x vs Q,au G H->Hv F.K G (er to) x->bC F.K G (fX ts) vs->Kv F.K G H t Q->r x vs H Q){apos:Pos}(hC:∀ i,attributeBase o nm (F.cx i).env (eval o (F.cx i).env)=eval o (F.cx i).env:=by intro _;rfl)(hJ:∀ i,((backTo pos (starEach (e::es) (F.cx i).env)).all (fun x=>!x.1)&&(backToKw pos (keywordEach [] (F.cx i).env)).all (fun x=>x.1.isSome)&&decide ((e::es).length+([]:List Keyword).length+(if([]:List Keyword).isEmpty then 0 else 1)<30))=true:=by intro _;rfl)(hline:(apos.endLine==pos.line)=true:=by rfl)(hs:∀ i,starEach (e::es) (F.cx i).env=(false,eval e (F.cx i).env)::starEach es (F.cx i).env:=by intro _;rfl)(Dj:∀ i,(backTo pos (starEach es (F.cx i).env)).any (·.1)=false:=by intro _;rfl) :
  Ev F (.Call (.Attribute o nm apos) (e::es) [] pos) ρ t:=by
 obtain⟨τ,p,q⟩:=ho.use;obtain⟨bY,p',q'⟩:=ha.use;refine⟨pH F.K "list" r τ bY,fun i=>F.hK i ▸ sE OF slot FK (hm i) (p i) (p' i) (hC i) (hJ i) hline (hs i) (Dj i),fun σ G H Q s rr k=>?_⟩;refine q σ G H _ s rr fun x G1 H1 s1 hx=>⟨?_,q' σ G1 H1 _ s1.s (rr.mono s1.g) fun vs G2 H2 s2 hv=>h G2 H2 x vs Q s2.s (hx.mono s2.g) hv (k.step (s1.trans s2))⟩
 rw[eo]at hx;obtain⟨l,us,rfl,h1,h2⟩:=hx;exact .inl ⟨rfl,_,s1.s.seq h1⟩
theorem wZ {n:Int}{ns:LI}{o:Expr}{to:Tr}(ho:Ev F o ρ to)(eo:er to=dis ns)(ha:Ev F e ρ (ti n)){apos:Pos}(hC:∀ i,attributeBase o "count" (F.cx i).env (eval o (F.cx i).env)=eval o (F.cx i).env:=by intro _;rfl)(hJ:∀ i,((backTo pos (starEach [e] (F.cx i).env)).all (fun x=>!x.1)&&(backToKw pos (keywordEach [] (F.cx i).env)).all (fun x=>x.1.isSome)&&decide (([e]:List Expr).length+([]:List Keyword).length+(if([]:List Keyword).isEmpty then 0 else 1)<30))=true:=by intro _;rfl)(hline:(apos.endLine==pos.line)=true:=by rfl)(hs:∀ i,starEach [e] (F.cx i).env=[(false,eval e (F.cx i).env)]:=by intro _;rfl):Ev F (.Call (.Attribute o "count" apos) [e] [] pos) ρ (ti (ns.count n:Nat)) :=
 Ed (r:=yf F.K) ajJ ajK (fun i=>F.hK i ▸ B9) ho eo (aj ha aw hs) (fun G H x vs Q s hx hv k=>by
  rw[eo]at hx;obtain⟨l,us,rfl,h1,h2⟩:=hx;have:=lK h2;subst this;obtain⟨y,rfl,hy⟩:=jh hv;refine⟨l,_,y,rfl,rfl,s.seq h1,by rw[aO hy];rfl,L5 ns,?_⟩;rw[aO hy,Lq];exact k.sc s rfl) hC hJ hline hs (fun _=>rfl)
theorem BE {K:Frag}{G:Hp}:∀ {bs:List Bool} {vs:List V},bC K G (bs.map db) vs->vs=bs.map V.bl
 |[],_,h=>h
 |_::_,_,⟨x,r,h1,h2,h3⟩=>by subst h1;rw[aO h2,BE h3];rfl
theorem aaP {bs:List Bool}(hm:F.mg "all" = none)(ha:Ev F e ρ ta)(ea:er ta=.lst (bs.map db)){p':Pos}(hg:∀ i,Gl (F.cx i) "all" := by intro _;rfl)(hs:∀ i,starEach [e] (F.cx i).env=[(false,eval e (F.cx i).env)]:=by intro _;rfl):Ev F (.Call (.Name "all" p') [e] [] pos) ρ (tb (bs.all id)) :=
 mY (r:=QN F.K) (fun i=>F.hK i ▸ Yk (F.calm i)) hm aaF (aj ha aw hs) (fun G H vs Q s hx k=>by
  obtain⟨x,rfl,fY⟩:=jh hx
  replace hx:=fY
  rw[ea]at hx;obtain⟨l,ys,rfl,h1,h2⟩:=hx;have:=BE h2;subst this;exact⟨l,bs,rfl,s.seq h1,k.sc s rfl⟩) hg (by decide) (by decide) hs (fun _=>rfl)
theorem aE.child {K:Frag}{G H:Hp}:∀ {us:List Tr} {vs:List V} {fq:List Addr} {i:Nat} {ws:List Tr},aE K G H us vs fq->us[i]?=some (.ow ws)->fq.Nodup ->
  ∃ l xs fw,vs[i]?=some (.ref l)/\l ∈ fq/\H l=some (.lst xs)/\aE K G H ws xs fw/\(∀ a ∈ fw,a ∈ fq)/\fw.Nodup/\l ∉ fw/\∀ vR kZ gU,aE K G H vR kZ gU->gU.Nodup->(∀ a ∈ gU,a ∈ fw\/a ∉ fq)->l ∉ gU ->
   ∃ fZ,aE K G (upd H l (.lst kZ)) (us.set i (.ow vR)) vs fZ/\fZ.Nodup/\∀ a ∈ fZ,a ∈ fq\/a ∈ gU
 |u::us,_,_,0,ws,⟨v,r,f1,f2,h1,h2,h3,h4⟩,hi,nd=>by
  cases hi
  subst h1 h2;obtain⟨l,xs,fw,rfl,hl,ow,rfl⟩:=h3;have bZ:=r8.mp nd;have vM:=BB.mp bZ.1;refine⟨l,xs,fw,rfl,by simp,hl,ow,fun a ha=>by simp[ha],vM.2,vM.1,fun vR kZ gU Gq nw hw zv=>?_⟩;refine⟨(l::gU)++f2,⟨.ref l,r,l::gU,f2,rfl,rfl,⟨l,kZ,gU,rfl,bO,Gq.frame zv,rfl⟩,h4.frame fun z=>bZ.2.2 l (.head _) l z rfl⟩,?_,fun a ha=>?_⟩
  ·refine r8.mpr ⟨BB.mpr ⟨zv,nw⟩,bZ.2.1,fun a ha b hb e=>?_⟩;subst e;rcases gr.mp ha with z | z
   ·exact bZ.2.2 a (z ▸ .head _) a hb rfl
   ·rcases hw a z with z' | z'
    ·exact bZ.2.2 a (.tail _ z') a hb rfl
    ·exact z' (ij _ hb)
  ·rcases wb.mp ha with z | z
   ·rcases gr.mp z with z | z
    ·exact .inl (by simp[z])
    ·exact .inr z
   ·exact .inl (ij _ z)
 |u::us,_,_,i+1,ws,⟨v,r,f1,f2,h1,h2,h3,h4⟩,hi,nd=>by
  subst h1 h2;have bZ:=r8.mp nd;obtain⟨l,xs,fw,q1,q2,q3,q4,q5,q6,q7,q8⟩:=aE.child (i:=i) h4 hi bZ.2.1;refine⟨l,xs,fw,q1,ij _ q2,q3,q4,fun a ha=>ij _ (q5 a ha),q6,q7,fun vR kZ gU Gq nw hw zv=>?_⟩;obtain⟨fZ,c1,c2,c3⟩:=q8 vR kZ gU Gq nw (fun a ha=>(hw a ha).imp id fun z z'=>z (ij _ z')) zv;refine⟨f1++fZ,⟨v,r,f1,fZ,rfl,rfl,h3.frame fun z=>bZ.2.2 l z l q2 rfl,c1⟩,r8.mpr ⟨bZ.1,c2,fun a ha b hb e=>?_⟩,fun a ha=>?_⟩
  ·subst e;rcases c3 a hb with z | z
   ·exact bZ.2.2 a ha a z rfl
   ·rcases hw a z with z' | z'
    ·exact bZ.2.2 a ha a (q5 a z') rfl
    ·exact z' (nv _ ha)
  ·rcases wb.mp ha with z | z
   ·exact .inl (nv _ z)
   ·exact(c3 a z).imp (ij _) id
theorem tS {α β:Type}(l:List α)(d : α)(f : α->β):(List.range l.length).map (fun k=>f ((l[k]?).getD d))=l.map f:=by
 refine IF fun i=>?_
 rw[ee,ee];rcases JJ i l.length with h | h
 ·rw[CS h,ab h];show some (f ((l[i]?).getD d))=_;rw[ab h]
  rfl
 ·rw[nt (by simpa using h),nt h]
  rfl
theorem OY:∀ ds:List Dv,fX (ds.map .fz)=ds
 |[] => rfl
 |d::ds=>by show d::fX (ds.map .fz)=_;rw[OY ds]
theorem oM (ds:List Dv):er (.ow (ds.map .fz))=.lst ds:=by show Dv.lst _=_;rw[OY]
theorem Ev.to {t':Tr}(h:Ev F e ρ t)(q:t=t'):Ev F e ρ t':=q ▸ h
theorem Et.to {p q:Bool}(h:Et F e ρ p)(z:p=q):Et F e ρ q:=z ▸ h
theorem bx.to {t':Tr}(h:bx F e ρ t)(q:t=t'):bx F e ρ t':=q ▸ h
theorem oN {A B:List Stmt}{o:Out}{p:Bool}(hc:cK F c ρ p)(hp:p=true)(h1:bw F A ρ o):Rn F (.If c A B pos) ρ o:=yv hc (fun _=>h1) fun h=>by rw[hp]at h;cases h
theorem OZ {A B:List Stmt}{o:Out}{p:Bool}(hc:cK F c ρ p)(hp:p=false)(h1:bw F B ρ o):Rn F (.If c A B pos) ρ o:=yv hc (fun h=>by rw[hp]at h;cases h) fun _=>h1
theorem cH {A:List Stmt}{p:Bool}(hc:cK F c ρ p)(hp:p=false):Rn F (.If c A [] pos) ρ (.nx ρ):=OZ hc hp uo
def QT (dd:List Dv)(t:Tr):Prop:=∃ ns:LI,ns.length<=63/\dd=[dis ns]/\t=tb true
def yx (K:Frag):Sp:=fun vs H Q _=>∃ (a:Addr) (ns:LI),vs=[.ref a]/\aL K H a (ns.map V.int)/\ns.length<=63/\∀ H',Q (.bl true) H'
theorem aaQ {P:Program}{w:World}{K:Frag}{mg:Str->Option Value}{base:Heap}{k:Nat}{f:Addr}{fd:FuncData}(F:aJ P w K mg base ak k f fd ["_law_script"] (spT K QT)):aJ P w K mg base ak k f fd ["_law_script"] (yx K) :=
 F.imp fun vs H Q E ⟨a,ns,e,h1,h2,h3⟩=>⟨H,[dis ns],tb true,au.refl _,⟨.ref a,[],e,⟨a,_,rfl,h1,rD⟩,rfl⟩,⟨ns,h2,rfl,rfl⟩,fun v G' H' fq st o w=>by rw[aO o.2];exact h3 H'⟩
end
end L2
namespace cY
def gc (a b:Int):Int:=(Int.gcd a b:Int)
theorem oO {a b:Int}(h:b ≠ 0) : 0<gc a b:=by
 have : 0<Int.gcd a b:=ajc _ h;unfold gc;omega
theorem Ca (a b:Int):gc a b ∣ a:=ajx ..
theorem ML (a b:Int):gc a b ∣ b:=ajp ..
theorem NQ (a:Int):gc a 0=(a.natAbs:Int):=by unfold gc;rw[Int.gcd_zero_right]
theorem NR (a:Int){b:Int}:gc b (a % b)=gc a b:=by
 unfold gc;congr 1;apply Nat.dvd_antisymm
 ·refine Int.dvd_gcd ?_ (ajx ..);have h1:(↑(Int.gcd b (a % b)):Int) ∣ b:=ajx ..;have h2:(↑(Int.gcd b (a % b)):Int) ∣ a % b:=ajp ..;have:=Int.dvd_add (US h1 (ajY b (a / b))) h2;rwa [Int.mul_ediv_add_emod]at this
 ·refine Int.dvd_gcd (ajp ..) ?_;have h1:(↑(Int.gcd a b):Int) ∣ a:=ajx ..;have h2:(↑(Int.gcd a b):Int) ∣ b:=ajp ..;rw[Int.emod_def];exact Int.dvd_sub h1 (US h2 (ajY b (a / b)))
theorem aaR (a b:Int):gc (a.natAbs:Int) (b.natAbs:Int)=gc a b:=by
 unfold gc;simp[Int.gcd]
theorem CJ {a b:Int}(h : 0<b):gc a b<=b:=ajq h (ML a b)
def lT (t b:Int):Int:=(if b<0 then -t else t) / gc t b
def lB (t b:Int):Int:=(b.natAbs:Int) / gc t b
theorem aaS {t b:Int}(h : 0<b):lT t b=t / gc t b:=by unfold lT;rw[mf (by omega)]
theorem aaT {t b:Int}(h : 0<b):lB t b=b / gc t b:=by unfold lB;rw[show(b.natAbs:Int)=b by omega]
theorem Du (t b:Int):lT t b*gc t b=if b<0 then -t else t:=by
 unfold lT;refine Int.ediv_mul_cancel ?_;split
 ·exact Int.dvd_neg.mpr (Ca t b)
 ·exact Ca t b
theorem Dw (t b:Int):lB t b*gc t b=(b.natAbs:Int):=by
 unfold lB;refine Int.ediv_mul_cancel ?_;exact aj0.mpr (ML t b)
theorem yy {t b:Int}(h:b ≠ 0) : 1<=lB t b:=by
 have h1:=Dw t b;have h2:=oO (a:=t) h;have h3 : 0<lB t b:=Int.pos_of_mul_pos_left (by rw[h1];omega) h2;omega
theorem ab1 {t b:Int}(h:b ≠ 0):lB t b<=(b.natAbs:Int):=by
 unfold lB;exact aja _ (by omega)
theorem aaU {t b:Int}(h:b ≠ 0):(lT t b).natAbs<=t.natAbs:=by
 have h1:=Du t b;have h2:=oO (a:=t) h;have h3:(lT t b*gc t b).natAbs=t.natAbs:=by rw[h1];split<;>omega
 rw[WE]at h3;have h4 : 1<=(gc t b).natAbs:=by omega
 calc (lT t b).natAbs=(lT t b).natAbs*1:=by omega
  _<=(lT t b).natAbs*(gc t b).natAbs:=Nat.mul_le_mul_left _ h4
  _=t.natAbs:=h3
theorem CK {t b:Int}(h:b ≠ 0):lT t b*b=t*lB t b:=by
 have h1:=Du t b;have h2:=Dw t b;have h3:=oO (a:=t) h;apply EN (a:=gc t b) (by omega);by_cases hb:b<0
 ·rw[lp hb]at h1;have h4:lB t b*gc t b = -b:=by omega
  grind
 ·rw[mf hb]at h1;have h4:lB t b*gc t b=b:=by omega
  grind
theorem BF {t b:Int}(h:b ≠ 0):Int.gcd (lT t b) (lB t b)=1:=by
 have h1:=Du t b;have h2:=Dw t b;have h3:=oO (a:=t) h;have Gr:((Int.gcd (lT t b) (lB t b):Int)) ∣ lT t b:=ajx ..;have hd2:((Int.gcd (lT t b) (lB t b):Int)) ∣ lB t b:=ajp ..;have e1:((Int.gcd (lT t b) (lB t b):Int))*gc t b ∣ t:=by
  have:=Int.mul_dvd_mul Gr (ak3 (gc t b));rw[h1]at this;split at this
  ·exact Int.dvd_neg.mp this
  ·exact this
 have e2:((Int.gcd (lT t b) (lB t b):Int))*gc t b ∣ b:=by
  have:=Int.mul_dvd_mul hd2 (ak3 (gc t b));rw[h2]at this;exact aj0.mp this
 have e3:((Int.gcd (lT t b) (lB t b):Int))*gc t b ∣ gc t b:=Int.dvd_coe_gcd e1 e2;have e4:=ajq h3 e3;have e5 : 0<Int.gcd (lT t b) (lB t b):=ajc _ (by have:=yy (t:=t) h;omega);by_cases hh:Int.gcd (lT t b) (lB t b)=1
 ·exact hh
 ·have e6:(2:Int)<=((Int.gcd (lT t b) (lB t b):Nat):Int):=by omega
  have : 2*gc t b<=((Int.gcd (lT t b) (lB t b):Nat):Int)*gc t b:=AL e6 (by omega);omega
theorem w4 {t b p q:Int}(hb:b ≠ 0)(hq : 0<q)(hg:Int.gcd p q=1)(h:p*b=t*q):p=lT t b/\q=lB t b:=by
 have c:=CK (t:=t) hb;have g:=BF (t:=t) hb;have k:=yy (t:=t) hb;have e:p*lB t b=lT t b*q:=by
  apply EN (a:=b) hb
  grind
 have d1:q ∣ lB t b:=by
  have z:q ∣ p*lB t b:=by rw[e];exact akY _ _
  have z':q.natAbs ∣ p.natAbs*(lB t b).natAbs:=by rw[<- WE];exact YU.mpr z
  have cp:Nat.Coprime q.natAbs p.natAbs:=by
   have:Int.gcd q p=1:=by rw[Int.gcd_comm];exact hg
   exact this
  exact YU.mp (cp.dvd_of_dvd_mul_left z')
 have d2:lB t b ∣ q:=by
  have z:lB t b ∣ lT t b*q:=by rw[<- e];exact akY _ _
  have z':(lB t b).natAbs ∣ (lT t b).natAbs*q.natAbs:=by rw[<- WE];exact YU.mpr z
  have cp:Nat.Coprime (lB t b).natAbs (lT t b).natAbs:=by
   have:Int.gcd (lB t b) (lT t b)=1:=by rw[Int.gcd_comm];exact g
   exact this
  exact YU.mp (cp.dvd_of_dvd_mul_left z')
 have eq:q=lB t b:=Int.dvd_antisymm (by omega) (by omega) d1 d2;refine⟨?_,eq⟩;rw[<- eq]at e;exact EN (a:=q) (by omega) e
theorem acI {t b t' b':Int}(hb:b ≠ 0)(dQ:b' ≠ 0)(h:t*b'=t'*b):lT t b=lT t' b'/\lB t b=lB t' b':=by
 refine w4 dQ (by have:=yy (t:=t) hb;omega) (BF hb) ?_;have c:=CK (t:=t) hb;apply EN (a:=b) hb
 grind
end cY
namespace cY
def lc (m b:Int):Int:=m*b / gc m b
theorem yz {m b:Int}(hm : 0<m)(hb : 0<b):lc m b=(Int.lcm m b:Int):=by
 unfold lc gc;have h:=Int.gcd_mul_lcm m b;have g0 : 0<Int.gcd m b:=ajc _ (by omega);have e:m*b=(Int.gcd m b:Int)*(Int.lcm m b:Int):=by
  have h2:((m.gcd b*m.lcm b:Nat):Int)=((m.natAbs*b.natAbs:Nat):Int):=by rw[h]
  rw[ajL,ajL]at h2;rw[h2];rw[Int.natAbs_of_nonneg (by omega),Int.natAbs_of_nonneg (by omega)]
 rw[e,LB _ (by omega)]
theorem Dx {m b:Int}(hm : 0<m)(hb : 0<b) : 0<lc m b:=by
 rw[yz hm hb];have : 0<Int.lcm m b:=Int.lcm_pos (by omega) (by omega);omega
theorem acJ {m b:Int}(hm : 0<m)(hb : 0<b):m ∣ lc m b:=by rw[yz hm hb];exact Int.dvd_lcm_left ..
theorem acK {m b:Int}(hm : 0<m)(hb : 0<b):b ∣ lc m b:=by rw[yz hm hb];exact Int.dvd_lcm_right ..
theorem Yo {m b n:Int}(hm : 0<m)(hb : 0<b)(h1:m ∣ n)(h2:b ∣ n):lc m b ∣ n:=by
 rw[yz hm hb];have:=Int.lcm_dvd (a:=m) (b:=b) (c:=n.natAbs) (aj0.mpr h1) (aj0.mpr h2);exact aj0.mp (Int.natCast_dvd_natCast.mpr this)
def cG (m:Int)(bs:LI):Int:=bs.foldl lc m
theorem xJ:∀ {bs:LI} {m:Int},0<m->(∀ b ∈ bs,0<b)->0<cG m bs
 |[],_,h,_=>h
 |b::bs,m,h,hb=>xJ (bs:=bs) (Dx h (hb b (.head _))) fun c hc=>hb c (.tail _ hc)
theorem xK:∀ {bs:LI} {m:Int},0<m->(∀ b ∈ bs,0<b)->m ∣ cG m bs/\∀ b ∈ bs,b ∣ cG m bs
 |[],m,_,_=>⟨ak3 _,fun _ h=>nomatch h⟩
 |c::bs,m,h,hb=>by
  have hc:=hb c (.head _);obtain⟨h1,h2⟩:=xK (bs:=bs) (Dx h hc) fun x hx=>hb x (.tail _ hx)
  refine⟨US (acJ h hc) h1,fun b tD=>?_⟩;rcases gr.mp tD with rfl | tD
  ·exact US (acK h hc) h1
  ·exact h2 b tD
theorem wN:∀ {bs:LI} {m n:Int},0<m->(∀ b ∈ bs,0<b)->m ∣ n->(∀ b ∈ bs,b ∣ n)->cG m bs ∣ n
 |[],_,_,_,_,h,_=>h
 |c::bs,m,n,h,hb,h1,h2=>wN (bs:=bs) (Dx h (hb c (.head _))) (fun x hx=>hb x (.tail _ hx)) (Yo h (hb c (.head _)) h1 (h2 c (.head _))) fun x hx=>h2 x (.tail _ hx)
theorem LD (m:Int)(bs:LI)(b:Int):cG m (bs++[b])=lc (cG m bs) b:=by unfold cG;rw[ajr];rfl
end cY
namespace L2
open PySem PySem.Spec PyProof.Rows
theorem xM {lo:Int}{n j:Nat}{d:Dv}(h:(jj lo n)[j]?=some d):j<n/\d=di (lo+(j:Int)):=by
 rw[ee]at h;rcases JJ j n with hj | hj
 ·rw[CS hj]at h;cases h;exact⟨hj,rfl⟩
 ·rw[nt (by simpa using hj)]at h;cases h
theorem dH {α β:Type}{f : α->β}{l:List α}{j:Nat}{d : β}(h:(l.map f)[j]?=some d):∃ x,l[j]?=some x/\d=f x:=by
 rw[ee]at h;cases q:l[j]? with
 |none=>rw[q]at h;cases h
 |some x=>rw[q]at h;cases h;exact⟨x,rfl,rfl⟩
theorem fA {α:Type}{l:List α}{i:Nat}{x : α}(h:l[i]?=some x):l.take (i+1)=l.take i++[x]:=by rw[List.take_succ,h];rfl
theorem bw.fg {ι:Type}{F:bc ι}{cB:List Stmt}{ρ ρ1 ρ2:En}(h:bw F cB ρ (.nx ρ1))(f:Fg ρ1 ρ2):bw F cB ρ (.nx ρ2):=by
 obtain⟨τ,x,y⟩:=h;exact⟨τ,x,fun D σ G0 H0 G H r k=>y D σ G0 H0 G H r fun aB G' H' r'=>k aB G' H' (f.rs r')⟩
theorem tT {ι:Type}{F:bc ι}{cB:List Stmt}{ρ:En}{o:Out}{t:Tr}{d:Dv}(j:Nat)(hj : ρ[j]?=some (some t))(e:er t=d)(h:bw F cB (ρ.set j (some (.fz d))) o):bw F cB ρ o:=W2 j hj (e ▸ h)
theorem tU {ι:Type}{F:bc ι}{cB body:List Stmt}{ρ:En}{o:Out}{c:Expr}{pos:Pos}{α:Type}(S : α->En)(Pp : α->Prop)(p : α->Bool)(μ : α->Nat)(a0 : α)(e:S a0=ρ)(h0:Pp a0)(hc:∀ a,Pp a->cK F c (S a) (p a))(hb:∀ a,Pp a->p a=true->∃ a',Pp a'/\μ a' < μ a/\bw F body (S a) (.nx (S a')))(fin:∀ a,Pp a->p a=false->bw F cB (S a) o)(hx:∀ i,(F.cx i).xe=cR:=by intro _;rfl):bw F (.While c body [] pos::cB) ρ o:=by
 subst e;obtain⟨a',h1,h2,h3⟩:=Wt S Pp p μ hc hb a0 h0 hx;exact ax h3 (fin a' h1 h2)
def bP (ns:LI)(k:Int):Int:=ns.getD k.toNat 0
theorem cell_in {ns:LI}{k:Int}(h0 : 0<=k)(h:k<ns.length):bu (ns.map di) k=some (di (bP ns k)):=by
 obtain⟨j,rfl⟩:∃ j:Nat,k=(j:Int):=⟨k.toNat,by omega⟩
 have hj:j<ns.length:=by omega
 refine iV ?_;unfold bP;rw[ee,ab hj,ba,show(j:Int).toNat=j by omega,ab hj]
 rfl
theorem cell_out {ns:LI}{k:Int}(h0 : 0<=k)(h:ns.length<=k):bP ns k=0:=by
 unfold bP;rw[ba,nt (by omega)]
 rfl
theorem i6 {a:Int}(h:a.natAbs<2 ^ 4000):a.natAbs<2 ^ 8000:=AS h (Nat.pow_le_pow_right (by decide) (by decide))
mutual
def kq:Dv->Bool
 | .fl v=>fE v
 | .lst ds=>oY ds
 | .tup ds=>oY ds
def oY:List Dv->Bool
 |[] => true
 |d::ds=>kq d&&oY ds
end
mutual
theorem w8:∀ {d:Dv},kq d=true->cJ d d=true
 | .fl v,h=>MB h
 | .lst ds,h=>BG h
 | .tup ds,h=>BG h
theorem BG:∀ {ds:List Dv},oY ds=true->fR ds ds=true
 |[],_=>rfl
 |d::ds,h=>by
  have h':(kq d&&oY ds)=true:=h;rw[BS]at h';show(cJ d d&&fR ds ds)=true;rw[w8 h'.1,BG h'.2]
  rfl
end
theorem Cb {α:Type}{f : α->Dv}(h:∀ a,kq (f a)=true):∀ l:List α,oY (l.map f)=true
 |[] => rfl
 |a::l=>by
  show(kq (f a)&&oY (l.map f))=true;rw[h a,Cb h l]
  rfl
theorem xN {n:Nat}:∀ {ds:List Dv},(∀ d ∈ ds,fj d<=n)->dX ds<=n
 |[],_=>DO _
 |d::ds,h=>by
  show max (fj d) (dX ds)<=n;exact Nat.max_le.mpr ⟨h d (.head _),xN fun x hx=>h x (.tail _ hx)⟩
theorem NS (l:LI):kq (dis l)=true:=Cb (fun _=>rfl) l
theorem xO (l:LI):fj (dis l)<=1:=by
 show dX _+1<=1;have:dX (l.map di)<=0:=xN fun d hd=>by
  obtain⟨_,_,rfl⟩:=i4.mp hd;exact br _
 omega
theorem CL {n:Nat}{ds:List Dv}(h:∀ d ∈ ds,fj d<=n):fj (.lst ds)<=n+1:=akX (xN h)
theorem NT {α:Type}{f : α->Dv}(h:∀ a,kq (f a)=true)(l:List α):kq (.lst (l.map f))=true:=Cb h l
end L2
namespace L2
open PySem PySem.Spec PyProof.Rows
theorem aE.setAt {K:Frag}{G H:Hp}:∀ {us:List Tr} {vs:List V} {fq:List Addr} {m:Nat} {t:Tr} {v:V} {f:List Addr},aE K G H us vs fq->m<us.length->Ow K G H t v f->fq.Nodup->f.Nodup->(∀ a ∈ f,a ∉ fq) ->
  ∃ fw,aE K G H (us.set m t) (vs.set m v) fw/\fw.Nodup/\∀ a ∈ fw,a ∈ fq\/a ∈ f
 |u::us,_,_,0,t,v,f,⟨w,r,f1,f2,h1,h2,h3,h4⟩,_,o,nd,nf,dj=>by
  subst h1 h2;have bZ:=r8.mp nd;refine⟨f++f2,⟨v,r,f,f2,rfl,rfl,o,h4⟩,r8.mpr ⟨nf,bZ.2.1,fun a ha b hb e=>dj a ha (e ▸ ij _ hb)⟩,fun a ha=>?_⟩;rcases wb.mp ha with z | z
  ·exact .inr z
  ·exact .inl (ij _ z)
 |u::us,_,_,m+1,t,v,f,⟨w,r,f1,f2,h1,h2,h3,h4⟩,hm,o,nd,nf,dj=>by
  subst h1 h2;have bZ:=r8.mp nd;obtain⟨fw,q1,q2,q3⟩:=aE.setAt (m:=m) h4 (Nat.lt_of_succ_lt_succ hm) o bZ.2.1 nf fun a ha z=>dj a ha (ij _ z)
  refine⟨f1++fw,⟨w,_,f1,fw,rfl,rfl,h3,q1⟩,r8.mpr ⟨bZ.1,q2,fun a ha b hb e=>?_⟩,fun a ha=>?_⟩
  ·subst e;rcases q3 a hb with z | z
   ·exact bZ.2.2 a ha a z rfl
   ·exact dj a z (nv _ ha)
  ·rcases wb.mp ha with z | z
   ·exact .inl (nv _ z)
   ·exact(q3 a z).imp (ij _) id
theorem Yp {ι:Type}{F:bc ι}{e:Expr}{ρ:En}{t:Tr}{pos:Pos}(j:Nat){x:Str}{us:List Tr}{n:Int}{m:Nat}{nE:Expr}{p1 p2:Pos}(h : ρ[j]?=some (some (.ow us)))(hn:bx F nE ρ (ti n))(hm:dv us.length n=some m)(he:bx F e ρ t)(hN:∀ i,(F.cx i).N[j]?=some x:=by intro _;rfl)(hv:∀ i,jI (F.cx i).env.scope x:=by intro _;first | exact Or.inl rfl | exact Or.inr (Or.inl rfl) | exact Or.inr (Or.inr rfl))(hd:(x==("__debug__" : Str))=false:=by decide)(hc:(x==("__classdict__" : Str))=false:=by decide)(hs:∀ i,swapsWithSole [.Subscript (.Name x p1) nE p2] e pos.line (F.cx i).env=pure false:=by intro _;rfl)(hw:∀ i,swappedStores [.Subscript (.Name x p1) nE p2] e (F.cx i).env=pure none:=by intro _;rfl)(h1:∀ i,(assignEach [.Subscript (.Name x p1) nE p2] (F.cx i).env).map (·.2)=[assign (.Subscript (.Name x p1) nE p2) (F.cx i).env]:=by intro _;rfl)(hps:∀ i,PG (F.cx i) (.Subscript (.Name x p1) nE p2) (nD (bU j) (uE F nE) nu)) :
  Rn F (.Assign [.Subscript (.Name x p1) nE p2] e pos) ρ (.nx (ρ.set j (some (.ow (us.set m t))))):=by
 obtain⟨τ,y,z⟩:=he;obtain⟨Gs,yn,zn⟩:=hn;refine⟨j5 τ (nD (bU j) (uE F nE) nu),fun i=>oJ (y i) (hps i) (hs i) (hw i) (h1 i),fun D σ G0 H0 G H r k=>?_⟩;obtain⟨fp,r⟩:=r;refine z σ G H fp _ r.st.s r.own r.g fun v1 G1 H1 f1 s1 o1 w1=>?_
 have r1:dz F.K G0 H0 G1 H1 ρ σ fp:=⟨r.st.trans s1,r.own.mono s1.g s1.h,r.own.off s1 r.g,r.n,r.d⟩
 obtain⟨l0,zm,zo,c1,c2,_⟩:=r1.mut h (.refl r1.st.s);refine⟨_,c1,Gs,yn,zn σ G1 H1 fp _ r1.st.s r1.own r1.g fun vn G2 H2 f2 s2 o2 w2=>?_⟩;obtain⟨l,vs,fq,d1,d2,d3,d4,d5,d6,d7⟩:=r.mut h (s1.trans s2);rw[c1]at d1;cases d1;have pV:m<us.length:=(rN hm).2.1;have nf:∀ a ∈ f1,a ∉ fq:=fun a ha hb=>by
  obtain⟨u,hu⟩:=r.own.there a (d6 a hb);rw[w1.n a ha]at hu;cases hu
 obtain⟨fw,q1,q2,q3⟩:=d4.setAt pV (o1.mono s2.g s2.h) d5 w1.d nf;refine⟨l0,vs,n,m,rfl,aO o2.2,d3,by rw[<- d4.length];exact hm,k σ G2 _ (d7 (us.set m t) (vs.set m v1) fw q1 q2 fun a ha=>(q3 a ha).imp id fun z=>⟨w1.n a z,?_⟩)⟩;cases q:G2 a with
 |none=>rfl
 |some u =>
  obtain⟨u',bh⟩:=o1.there a z;have:=s2.n a (w1.g a z) (by rw[q];exact fun z=>nomatch z);rw[bh]at this;cases this
def aaV (ta:TA):TE:=fun σ H Q=>ta σ H fun vs H1=>∃ j:Int,vs=[.int j]/\∀ p,H1 p=none->Q (.ref p) (upd H1 p (.cF 0 j))
section
variable {X:Cx}
theorem XD {a:Expr}{ta:TA}{p pos:Pos}(hg:Gl X "range")(hm:X.mg "range" = none)(ha:PA X [a] ta)(hs:starEach [a] X.env=[(false,eval a X.env)]:=by rfl):PE X (.Call (.Name "range" p) [a] [] pos) (aaV ta):=by
 intro pins s σ H Q I h;refine Call_ (oI I hg hm boot_range (OE (aD (ha pos pins s σ H _ I h) fun us s1 ⟨vs,H1,I1,r1,q1⟩=>?_) hs rfl));obtain⟨j,e,q⟩:=q1;subst e;cases r1 with
 |cons r rr =>
  cases rr
  obtain⟨t,rfl⟩:=r;refine call_range_1 ⟨.ref _,_,I1.laid (t':=s1.toks+1+1) (o:=.cF 0 j) (fun b ob q=>Cc _ q) (br _) ?_,rfl,q _ (I1.aA.fresh (br _))⟩;exact⟨_,_,_,EO _ rfl⟩
theorem VE (hc:X.calm=true):eQ X (.type "list") (fun xs H Q=>∃ p n,xs=[.ref p]/\H p=some (.cF 0 n)/\0<=n/\n<2 ^ 20/\∀ l,H l=none->Q (.ref l) (upd H l (.lst ((List.range n.toNat).map fun i=>.int (0+((i:Nat):Int)))))):=by
 intro pins s σ H xs us Q I r h;obtain⟨p,n,rfl,hH,h0,h1,q⟩:=h;obtain⟨u,rfl,rx⟩:=vals1 r;cases rx;obtain⟨t,u,v,e⟩:=(show cv X.prog X.w H s.heap p (.cF 0 n)from I.aA p _ hH)
 have ab2:Builtin.Range.rangeSize 0 n 1=(n.toNat:Nat):=by rw[rangeSize_pos (by decide) h0];omega
 refine call_list_range (n:=n.toNat) (I.ok.hd hc) e (W0 h0 (by omega) (by decide) (by decide)) ab2 (by omega) fun h' tk QU c' kp e' it=>?_
 refine⟨.ref s.heap.objs.size,_,I.laid (t':=tk) (o:=.lst ((List.range n.toNat).map fun i=>.int (0+((i:Nat):Int)))) kp (br _) ?_,rfl,q _ (I.aA.fresh (br _))⟩;have hs:sizeLine=16777216:=sizeLine_eq;refine⟨by rw[aa,Cf];omega,QU.toList,c',?_,by rw[aab];exact e'⟩;obtain⟨i1,i2⟩:=it;have gen:∀ (l:List Value) (k:Nat),(∀ j v,l[j]?=some v->∃ t,v=Value.int (0+((k+j:Nat):Int)) t)->Vals ((List.range l.length).map fun i=>V.int (0+((k+i:Nat):Int))) l:=by
  intro l
  induction l with
  |nil=>intro k _;exact .nil
  |cons a l ih =>
   intro k hk;rw[AN,ajT,i8,gz];obtain⟨t,ht⟩:=hk 0 a rfl;refine .cons ⟨t,by rw[ht]⟩ ?_;have:=ih (k+1) (fun j v hj=>by
    obtain⟨t,ht⟩:=hk (j+1) v hj;exact⟨t,by rw[ht,show k+(j+1)=k+1+j by omega]⟩)
   refine(ma fun i _=>?_) ▸ this
   show V.int (0+((k+1+i:Nat):Int))=V.int (0+((k+(i+1):Nat):Int));rw[show k+1+i=k+(i+1) by omega]
 have g0:=gen QU.toList 0 fun j v hj=>by
  obtain⟨t,ht⟩:=i2 j v (by rw[<- PM];exact hj);refine⟨t,?_⟩;rw[ht,ai6,akA]
 rw[WI,i1]at g0;have e0:((List.range n.toNat).map fun i=>V.int (0+((0+i:Nat):Int)))=(List.range n.toNat).map fun i=>V.int (0+((i:Nat):Int)):=ma fun i _=>by rw[akA]
 rw[e0]at g0;exact g0
def QV (K:Frag):List V->Hp->VK->Prop:=fun xs H Q=>∃ (p:Addr) (bs:List Bool),xs=[.ref p]/\aL K H p (bs.map V.bl)/\Q (.bl (bs.any id)) H
theorem range_any (bs:List Bool):((List.range bs.length).any fun i=>(bs[i]?).getD false)=bs.any id:=by
 have:=congrArg (fun l:List Bool=>l.any id) (tS bs false id);simp only[ak4,ak8]at this;exact this
theorem Yq (hc:X.calm=true):eQ X (.builtin "any") (QV X.K):=by
 intro pins s σ H xs us Q I r h;obtain⟨p,bs,rfl,hq,q⟩:=h;cases r with
 |cons r1 rr =>
  cases rr
  cases r1
  obtain⟨its,rv,pl,hz⟩:=I.list hq;have hb:=ME rv;have hl:s.heap.IsList p its.toArray:=pl.isList;have aT:p<s.heap.objs.size:=by obtain⟨_,e,_⟩:=hl;exact xy e
  refine call_any_walk (akL hl ?_);refine⟨s.heap.objs.size,[s.heap.objs.size,p],[s.heap.objs.size],its.toArray.size,_,_,fun i=>(bs[i]?).getD false,rfl,Walks.list (A:=X.A.in1) (I.ok.hd hc) _ p (Co aT) its.toArray,
   ⟨⟨_,EO _ rfl,rfl,rfl⟩,hl.push _⟩,fun i v s' Q' E' hP hQ=>?_,fun h' tk hk=>?_⟩
  ·obtain⟨b,e,rfl⟩:=hb.get i v (by simpa using hP);simp only[e,ake]at hQ;exact NL hQ
  ·have e:((List.range its.toArray.size).any fun i=>(bs[i]?).getD false)=bs.any id:=by
    rw[uu,hb.length];exact range_any bs
   rw[e];exact⟨.bl _,H,I.kept (t':=tk) (LSm.kept_iter hk),rfl,q⟩
def unlike (ns:LI):Nat:=(firstMet (fun i=>ns.getD i 0) ns.length).length
theorem VF (hc:X.calm=true):eQ X (.type "set") (fun xs H Q=>∃ (p:Addr) (ns:LI),xs=[.ref p]/\aL X.K H p (ns.map V.int)/\ns.length<1000/\∀ l S,H l=none->Q (.ref l) (upd H l (.set S (unlike ns)))):=by
 intro pins s σ H xs us Q I r h;obtain⟨p,ns,rfl,hq,hz,q⟩:=h;obtain⟨u,rfl,rx⟩:=vals1 r;cases rx;obtain⟨its,rv,pl,_⟩:=I.list hq;have hi:=intsAre_of rv;have hl:=rv.length;rw[aa]at hl;refine call_set_list (ns:=ns) (I.ok.hd hc) pl.isList (by simpa using hi) (by rw[uu,<- hl];exact AS (Nat.succ_lt_succ hz) (by decide)) fun h' tk hs kp=>?_
 have hsz:its.toArray.size=ns.length:=by rw[uu,<- hl]
 rw[hsz]at hs;exact⟨.ref s.heap.objs.size,_,I.laid (t':=tk) (o:=.set _ (unlike ns)) (fun b o e=>kp b o (xy e) e) (br _) hs,rfl,q _ _ (I.aA.fresh (br _))⟩
theorem VG:eQ X (.builtin "len") (fun xs H Q=>∃ p S n,xs=[.ref p]/\H p=some (.set S n)/\Q (.int n) H):=by
 intro pins s σ H xs us Q I r h;obtain⟨p,S,n,rfl,hH,q⟩:=h;obtain⟨u,rfl,rx⟩:=vals1 r;cases rx;obtain⟨o,es,ep,t,h1,h2,h3,_,_,h4,h5,h6⟩:=(show cv X.prog X.w H s.heap p (.set S n)from I.aA p _ hH)
 subst h6;refine call_len_set h1 h2 h3 h5 (by have:es.size<4096:=h4;omega) ⟨.int _,H,I.tok _,⟨_,rfl⟩,q⟩
theorem V8 {ns:LI}(h:ns.Nodup):unlike ns=ns.length:=by
 have gen:∀ i,i<=ns.length->firstMet (fun i=>ns.getD i 0) i=ns.take i:=by
  intro i
  induction i with
  |zero=>intro _;rw[firstMet_zero];simp
  |succ i ih =>
   intro hi;rw[firstMet_succ,ih (by omega)];have hx:ns[i]?=some (ns[i]'(by omega)):=ab _;rw[fA hx];have e:ns.getD i 0=ns[i]'(by omega):=by rw[ba,hx];rfl
   show step_dedup (ns.take i) (ns.getD i 0)=_;rw[e];unfold step_dedup;have:((ns.take i).any (·==ns[i]'(by omega)))=false:=by
    rw[akP];intro z;obtain⟨y,hy,SN⟩:=Sm.mp z;have zj:y=ns[i]'(by omega):=by simpa using SN
    subst zj;obtain⟨j,hj,SQ⟩:=List.mem_iff_getElem.mp hy;rw[List.getElem_take]at SQ;rw[NG]at hj;have:=(List.getElem_inj (xs:=ns) h).mp SQ;omega
   rw[this]
   rfl
 unfold unlike;rw[gen ns.length (br _),Mn]
theorem V9:eQ X (.builtin "sorted") (fun xs H Q=>∃ (p:Addr) (ns:LI),xs=[.ref p]/\aL X.K H p (ns.map V.int)/\ns.length<64/\∀ (l:Addr) (ms:LI),H l=none->ms.Perm ns->ms.Pairwise (· <= ·)->Q (.ref l) (upd H l (.lst (ms.map V.int)))):=by
 intro pins s σ H xs us Q I r h;obtain⟨p,ns,rfl,hq,hz,q⟩:=h;obtain⟨u,rfl,rx⟩:=vals1 r;cases rx;obtain⟨its,rv,pl,zA⟩:=I.list hq;have hl:=rv.length;rw[aa]at hl;refine sorted_ints pl.isList (intsAre_of rv) (by omega) fun out ms io pm pw=>?_
 obtain⟨e,he⟩:=sortedAll_at s.heap its out;refine⟨.ref (s.heap.objs.size+1),_,I.laid (t':=s.toks) (o:=.lst (ms.map V.int)) (fun b o e=>sortedAll_old e) (Nat.le_succ _) ?_,rfl,q _ ms (I.aA.fresh (Nat.le_succ _)) pm pw⟩;refine⟨by rw[aa,pm.length_eq];rw[aa]at zA;exact zA,out.toList,e,wL io,by rw[aab];exact he⟩
end
section
variable {ι:Type}{F:bc ι}{e a b c:Expr}{es:List Expr}{ρ:En}{t ta tb':Tr}{ts:List Tr}{pos:Pos}
theorem m3 (l:LI):(l.map di).map Tr.fz=l.map fun n=>Tr.fz (di n):=by rw[gz];rfl
theorem Wa {n:Int}(hm:F.mg "list" = none)(ju:F.mg "range" = none)(ha:Ev F a ρ (ti n))(h0 : 0<=n)(h1:n<2 ^ 20){p1 p2 oZ:Pos}(hg:∀ i,Gl (F.cx i) "list" := by intro _;rfl)(vK:∀ i,Gl (F.cx i) "range" := by intro _;rfl)(hs:∀ i,starEach [a] (F.cx i).env=[(false,eval a (F.cx i).env)]:=by intro _;rfl)(cL:∀ i,starEach [.Call (.Name "range" p2) [a] [] oZ] (F.cx i).env=[(false,eval (.Call (.Name "range" p2) [a] [] oZ) (F.cx i).env)]:=by intro _;rfl) :
  Ev F (.Call (.Name "list" p1) [.Call (.Name "range" p2) [a] [] oZ] [] pos) ρ (.ow (((List.range n.toNat).map fun i=>(0+((i:Nat):Int))).map fun n=>.fz (di n))):=by
 obtain⟨τ,p,q⟩:=ha.use;refine⟨_,fun i=>wK (VE (F.calm i)) (hg i) ((F.hm i).symm ▸ hm) rO (aX (XD (vK i) ((F.hm i).symm ▸ ju) (aX (p i) cu (hs i)) (hs i)) cu (cL i)) (by decide) (by decide) (cL i) rfl,fun σ G H Q s rr k=>q σ G H _ s rr fun x G1 H1 s1 hx=>?_⟩;refine⟨n,by rw[aO hx],fun p0 zB=>⟨p0,n,rfl,bO,h0,h1,fun l hl=>?_⟩⟩;have k2:=k.step (s1.trans (Step.hW (o:=.cF 0 n) s1.s zB));have e:((List.range n.toNat).map fun i=>V.int (0+((i:Nat):Int)))=((List.range n.toNat).map fun i=>(0+((i:Nat):Int))).map V.int:=by rw[gz];rfl
 rw[e];refine k2.lst (s1.s.trans (au.new zB)) ?_ hl;rw[<- m3];exact rD.jK
theorem yg {bs:List Bool}(hm:F.mg "any" = none)(ha:Ev F e ρ ta)(ea:er ta=.lst (bs.map db)){p':Pos}(hg:∀ i,Gl (F.cx i) "any" := by intro _;rfl)(hs:∀ i,starEach [e] (F.cx i).env=[(false,eval e (F.cx i).env)]:=by intro _;rfl):Ev F (.Call (.Name "any" p') [e] [] pos) ρ (tb (bs.any id)) :=
 mY (r:=QV F.K) (fun i=>F.hK i ▸ Yq (F.calm i)) hm aaG (aj ha aw hs) (fun G H vs Q s hx k=>by
  obtain⟨x,rfl,fY⟩:=jh hx;rw[ea]at fY;obtain⟨l,ys,rfl,h1,h2⟩:=fY;have:=BE h2;subst this;exact⟨l,bs,rfl,s.seq h1,k.sc s rfl⟩) hg (by decide) (by decide) hs (fun _=>rfl)
theorem aaW:bootBuiltins "set" = some (.type "set"):=by decide +kernel
theorem XF {ns:LI}(hm:F.mg "len" = none)(ju:F.mg "set" = none)(ha:Ev F a ρ ta)(ea:er ta=dis ns)(hz:ns.length<1000){p1 p2 oZ:Pos}(hg:∀ i,Gl (F.cx i) "len" := by intro _;rfl)(vK:∀ i,Gl (F.cx i) "set" := by intro _;rfl)(hs:∀ i,starEach [a] (F.cx i).env=[(false,eval a (F.cx i).env)]:=by intro _;rfl)(cL:∀ i,starEach [.Call (.Name "set" p2) [a] [] oZ] (F.cx i).env=[(false,eval (.Call (.Name "set" p2) [a] [] oZ) (F.cx i).env)]:=by intro _;rfl) :
  Ev F (.Call (.Name "len" p1) [.Call (.Name "set" p2) [a] [] oZ] [] pos) ρ (ti (unlike ns:Nat)):=by
 obtain⟨τ,p,q⟩:=ha.use;refine⟨ke _ (dc (ke (fun xs H Q=>∃ (p:Addr) (ns:LI),xs=[.ref p]/\aL F.K H p (ns.map V.int)/\ns.length<1000/\∀ l S,H l=none->Q (.ref l) (upd H l (.set S (unlike ns)))) (dc τ dO)) dO),fun i=>om VG (hg i) ((F.hm i).symm ▸ hm) Dp (aX (wK (F.hK i ▸ VF (F.calm i)) (vK i) ((F.hm i).symm ▸ ju) aaW (aX (p i) cu (hs i)) (by decide) (by decide) (hs i) rfl) cu (cL i)) (by decide) (by decide) (cL i) rfl,fun σ G H Q s rr k=>q σ G H _ s rr fun x G1 H1 s1 hx=>?_⟩;rw[ea]at hx;obtain⟨l,ys,rfl,h1,h2⟩:=hx;have:=lK h2;subst this;refine⟨l,ns,rfl,s1.s.seq h1,hz,fun l0 S lg=>⟨l0,S,_,rfl,bO,?_⟩⟩;exact(k.step (s1.trans (Step.hW (o:=.set S (unlike ns)) s1.s lg))).sc (s1.s.trans (au.new lg)) rfl
def sortI (ns:LI):LI:=ns.mergeSort (fun a b=>decide (a<=b))
theorem sortI_perm (ns:LI):(sortI ns).Perm ns:=List.mergeSort_perm ..
theorem xc (ns:LI):(sortI ns).Pairwise (· <= ·):=by
 have:=List.pairwise_mergeSort (le:=fun a b:Int=>decide (a<=b)) (fun a b c h1 h2=>by simp only[akO]at *;omega) (fun a b=>by simp only[ak0,akO];omega) ns;exact this.imp fun h=>by simpa using h
theorem Bm {a b:LI}(p:a.Perm b)(ha:a.Pairwise (· <= ·))(hb:b.Pairwise (· <= ·)):a=b:=List.Perm.eq_of_pairwise (fun x y _ _ h1 h2=>Int.le_antisymm h1 h2) ha hb p
theorem XG {ns:LI}(hm:F.mg "sorted" = none)(ha:Ev F e ρ ta)(ea:er ta=dis ns)(hz:ns.length<64){p':Pos}(hg:∀ i,Gl (F.cx i) "sorted" := by intro _;rfl)(hs:∀ i,starEach [e] (F.cx i).env=[(false,eval e (F.cx i).env)]:=by intro _;rfl):Ev F (.Call (.Name "sorted" p') [e] [] pos) ρ (.ow ((sortI ns).map fun n=>.fz (di n))) :=
 mY (r:=fun xs H Q=>∃ (p:Addr) (ns:LI),xs=[.ref p]/\aL F.K H p (ns.map V.int)/\ns.length<64/\∀ (l:Addr) (ms:LI),H l=none->ms.Perm ns->ms.Pairwise (· <= ·)->Q (.ref l) (upd H l (.lst (ms.map V.int)))) (fun i=>F.hK i ▸ V9) hm wM (aj ha aw hs) (fun G H vs Q s hx k=>by
  obtain⟨x,rfl,fY⟩:=jh hx;rw[ea]at fY;obtain⟨l,ys,rfl,h1,h2⟩:=fY;have:=lK h2;subst this;refine⟨l,ns,rfl,s.seq h1,hz,fun l0 ms lg pm pw=>?_⟩;have em:ms=sortI ns:=Bm (pm.trans (sortI_perm ns).symm) pw (xc ns);subst em;refine k.lst s ?_ lg;rw[<- m3];exact rD.jK) hg (by decide) (by decide) hs (fun _=>rfl)
theorem Cd {K:Frag}{G:Hp}:∀ {ws:List V} {vs:List V},bC K G (ws.map .fl) vs->vs=ws/\ws.all fE=true
 |[],_,h=>⟨h,rfl⟩
 |_::_,_,⟨x,r,h1,h2,h3⟩=>by
  obtain⟨e1,e2⟩:=Cd h3;subst h1;refine⟨by rw[h2.1,e1],?_⟩;rw[ajn,e2,h2.2]
  rfl
theorem XH {v:V}{ws:List V}{o:Expr}{to:Tr}(ho:Ev F o ρ to)(eo:er to=.lst (ws.map .fl))(ha:Ev F e ρ (.fz (.fl v))){apos:Pos}(hC:∀ i,attributeBase o "count" (F.cx i).env (eval o (F.cx i).env)=eval o (F.cx i).env:=by intro _;rfl)(hJ:∀ i,((backTo pos (starEach [e] (F.cx i).env)).all (fun x=>!x.1)&&(backToKw pos (keywordEach [] (F.cx i).env)).all (fun x=>x.1.isSome)&&decide (([e]:List Expr).length+([]:List Keyword).length+(if([]:List Keyword).isEmpty then 0 else 1)<30))=true:=by intro _;rfl)(hline:(apos.endLine==pos.line)=true:=by rfl)(hs:∀ i,starEach [e] (F.cx i).env=[(false,eval e (F.cx i).env)]:=by intro _;rfl):Ev F (.Call (.Attribute o "count" apos) [e] [] pos) ρ (ti (ws.countP (fun z=>dw z v):Nat)) :=
 Ed (r:=yf F.K) ajJ ajK (fun i=>F.hK i ▸ B9) ho eo (aj ha aw hs) (fun G H x vs Q s hx hv k=>by
  rw[eo]at hx;obtain⟨l,us,rfl,h1,h2⟩:=hx;obtain⟨rfl,hf⟩:=Cd h2;obtain⟨y,rfl,hy⟩:=jh hv;refine⟨l,_,y,rfl,rfl,s.seq h1,by rw[hy.1];exact hy.2,hf,?_⟩;rw[hy.1];exact k.sc s rfl) hC hJ hline hs (fun _=>rfl)
theorem Zy {m n:Int}(hm:F.mg "max" = none)(ha:Ev F a ρ (ti m))(hb:Ev F b ρ (ti n)){p':Pos}(hg:∀ i,Gl (F.cx i) "max" := by intro _;rfl)(hs:∀ i,starEach [a,b] (F.cx i).env=[(false,eval a (F.cx i).env),(false,eval b (F.cx i).env)]:=by intro _;rfl)(cL:∀ i,starEach [b] (F.cx i).env=[(false,eval b (F.cx i).env)]:=by intro _;rfl):Ev F (.Call (.Name "max" p') [a,b] [] pos) ρ (ti (if n > m then n else m)) :=
 mY (fun i=>Xq (F.calm i)) hm aaE (aj ha (aj hb aw cL) (fun i=>by rw[hs i,cL i])) (fun G H vs Q s hx k=>by
  obtain⟨x,y,rfl,h1,h2⟩:=E6 hx;exact⟨m,n,by rw[aO h1,aO h2],k.sc s rfl⟩) hg (by decide) (by decide) (fun i=>by rw[hs i,cL i]) (fun i=>by rw[cL i];rfl)
theorem Zz {m n:Int}(hm:F.mg "min" = none)(ha:Ev F a ρ (ti m))(hb:Ev F b ρ (ti n)){p':Pos}(hg:∀ i,Gl (F.cx i) "min" := by intro _;rfl)(hs:∀ i,starEach [a,b] (F.cx i).env=[(false,eval a (F.cx i).env),(false,eval b (F.cx i).env)]:=by intro _;rfl)(cL:∀ i,starEach [b] (F.cx i).env=[(false,eval b (F.cx i).env)]:=by intro _;rfl):Ev F (.Call (.Name "min" p') [a,b] [] pos) ρ (ti (if n<m then n else m)) :=
 mY (fun i=>Xr (F.calm i)) hm aaD (aj ha (aj hb aw cL) (fun i=>by rw[hs i,cL i])) (fun G H vs Q s hx k=>by
  obtain⟨x,y,rfl,h1,h2⟩:=E6 hx;exact⟨m,n,by rw[aO h1,aO h2],k.sc s rfl⟩) hg (by decide) (by decide) (fun i=>by rw[hs i,cL i]) (fun i=>by rw[cL i];rfl)
theorem aE.erase {K:Frag}{G H:Hp}:∀ {us:List Tr} {vs:List V} {fq:List Addr} {m:Nat} {u:Tr},aE K G H us vs fq->us[m]?=some u->fq.Nodup->∃ v f fw,vs[m]?=some v/\Ow K G H u v f/\aE K G H (us.eraseIdx m) (vs.eraseIdx m) fw/\fw.Nodup/\f.Nodup/\(∀ a ∈ fw,a ∈ fq)/\(∀ a ∈ f,a ∈ fq)/\∀ a ∈ f,a ∉ fw
 |t::us,_,_,0,u,⟨v,r,f1,f2,h1,h2,h3,h4⟩,hu,nd=>by
  cases hu
  subst h1 h2;have bZ:=r8.mp nd;exact⟨v,f1,f2,rfl,h3,h4,bZ.2.1,bZ.1,fun a ha=>ij _ ha,fun a ha=>nv _ ha,fun a ha hb=>bZ.2.2 a ha a hb rfl⟩
 |t::us,_,_,m+1,u,⟨v,r,f1,f2,h1,h2,h3,h4⟩,hu,nd=>by
  subst h1 h2;have bZ:=r8.mp nd;obtain⟨v',f,fw,q1,q2,q3,q4,q5,q6,q7,q8⟩:=aE.erase (m:=m) h4 hu bZ.2.1;refine⟨v',f,f1++fw,q1,q2,⟨v,_,f1,fw,rfl,rfl,h3,q3⟩,r8.mpr ⟨bZ.1,q4,fun a ha b hb e=>bZ.2.2 a ha b (q6 b hb) e⟩,q5,fun a ha=>?_,fun a ha=>ij _ (q7 a ha),fun a ha hb=>?_⟩
  ·rcases wb.mp ha with z | z
   ·exact nv _ z
   ·exact ij _ (q6 a z)
  ·rcases wb.mp hb with z | z
   ·exact bZ.2.2 a z a (q7 a ha) rfl
   ·exact q8 a ha z
theorem VH (j j2:Nat){x y:Str}{us ws:List Tr}{d:Dv}{n:Int}{m:Nat}{nE:Expr}{p1 p2 p3 p4 p5 p6:Pos}(Gu:j ≠ j2)(h : ρ[j]?=some (some (.ow us)))(h2 : ρ[j2]?=some (some (.ow ws)))(hn:bx F nE ρ (ti n))(hm:dv ws.length n=some m)(hb : -(2 ^ 62)<=n/\n<2 ^ 62)(hu:ws[m]?=some (.fz d))(hz:us.length<sizeLine)(hN:∀ i,(F.cx i).N[j]?=some x:=by intro _;rfl)(hN2:∀ i,(F.cx i).N[j2]?=some y:=by intro _;rfl)(hv:∀ i,jI (F.cx i).env.scope x:=by intro _;first | exact Or.inl rfl | exact Or.inr (Or.inl rfl) | exact Or.inr (Or.inr rfl))(zC:∀ i,jI (F.cx i).env.scope y:=by intro _;first | exact Or.inl rfl | exact Or.inr (Or.inl rfl) | exact Or.inr (Or.inr rfl))(hd:(x==("__debug__" : Str))=false:=by decide)(hc:(x==("__classdict__" : Str))=false:=by decide)(hd2:(y==("__debug__" : Str))=false:=by decide)(nU:(y==("__classdict__" : Str))=false:=by decide)(hC:∀ i,attributeBase (.Name x p1) "append" (F.cx i).env (eval (.Name x p1) (F.cx i).env)=eval (.Name x p1) (F.cx i).env:=by intro _;rfl)(aaX:∀ i,attributeBase (.Name y p4) "pop" (F.cx i).env (eval (.Name y p4) (F.cx i).env)=eval (.Name y p4) (F.cx i).env:=by intro _;rfl)(hJ:∀ i,((backTo p3 (starEach [.Call (.Attribute (.Name y p4) "pop" p5) [nE] [] p6] (F.cx i).env)).all (fun x=>!x.1)&&(backToKw p3 (keywordEach [] (F.cx i).env)).all (fun x=>x.1.isSome)&&decide (([.Call (.Attribute (.Name y p4) "pop" p5) [nE] [] p6]:List Expr).length+([]:List Keyword).length+(if([]:List Keyword).isEmpty then 0 else 1)<30))=true:=by intro _;rfl)(ab3:∀ i,((backTo p6 (starEach [nE] (F.cx i).env)).all (fun x=>!x.1)&&(backToKw p6 (keywordEach [] (F.cx i).env)).all (fun x=>x.1.isSome)&&decide (([nE]:List Expr).length+([]:List Keyword).length+(if([]:List Keyword).isEmpty then 0 else 1)<30))=true:=by intro _;rfl)(hline:(p2.endLine==p3.line)=true:=by rfl)(aaY:(p5.endLine==p6.line)=true:=by rfl)(hs:∀ i,starEach [.Call (.Attribute (.Name y p4) "pop" p5) [nE] [] p6] (F.cx i).env=[(false,eval (.Call (.Attribute (.Name y p4) "pop" p5) [nE] [] p6) (F.cx i).env)]:=by intro _;rfl)(cL:∀ i,starEach [nE] (F.cx i).env=[(false,eval nE (F.cx i).env)]:=by intro _;rfl)(kj:∀ i,swapsWith (.Call (.Attribute (.Name x p1) "append" p2) [.Call (.Attribute (.Name y p4) "pop" p5) [nE] [] p6] [] p3) none pos.line (F.cx i).env=pure false:=by intro _;rfl) :
  Rn F (.Expr (.Call (.Attribute (.Name x p1) "append" p2) [.Call (.Attribute (.Name y p4) "pop" p5) [nE] [] p6] [] p3) pos) ρ (.nx ((ρ.set j2 (some (.ow (ws.eraseIdx m)))).set j (some (.ow (us++[.fz d]))))):=by
 obtain⟨Gs,yn,zn⟩:=hn;refine⟨sA (pH F.K "list" xC (bU j) (dc (pH F.K "list" OJ (bU j2) (dc Gs dO)) dO)),fun i=>ug (F.hK i ▸ sE OF ajF ajG t6 (m4 (hN i) (hv i) hd hc) (aX (sE OF PySem.F.slot_list_pop PySem.F.type_list_pop Yd (m4 (hN2 i) (zC i) hd2 nU) (aX (yn i) cu (cL i)) (aaX i) (ab3 i) aaY (cL i) rfl) cu (hs i)) (hC i) (hJ i) hline (hs i) rfl) (kj i),fun D σ G0 H0 G H r k=>?_⟩;obtain⟨fp,r⟩:=r;obtain⟨l0,zm,zo,c1,c2,_⟩:=r.mut h (.refl r.st.s);obtain⟨l2,Gv,zD,e1,e2,_⟩:=r.mut h2 (.refl r.st.s);refine⟨_,c1,.inl ⟨rfl,_,aL.of c2⟩,_,e1,.inl ⟨rfl,_,aL.of e2⟩,?_⟩;refine zn σ G H fp _ r.st.s r.own r.g fun vn G1 H1 f1 s1 o1 w1=>?_
 obtain⟨l,vs,fq,d1,d2,d3,d4,d5,d6,d7⟩:=r.mut h2 s1;rw[e1]at d1;cases d1;obtain⟨v,f,fw,g1,g2,g3,g4,g5,g6,g7,g8⟩:=d4.erase hu d5;obtain⟨rfl,vS⟩:=g2;obtain⟨ix1,ix2,ix3,ix4⟩:=rN hm;refine⟨l2,vs,n,m,v,rfl,by rw[aO o1.2],d3,by omega,by omega,by rw[<- d4.length];exact ix1,g1,?_⟩;have r2:=d7 (ws.eraseIdx m) (vs.eraseIdx m) fw g3 g4 fun a ha=>.inl (g6 a ha)
 obtain⟨fp2,r2⟩:=r2;have lh:(ρ.set j2 (some (.ow (ws.eraseIdx m))))[j]?=some (some (.ow us)):=by rw[BY (Ne.symm Gu)];exact h
 obtain⟨l3,SR,Gw,b1,b2,b3,b4,b5,b6,b7⟩:=r2.mut lh (.refl r2.st.s);rw[c1]at b1;cases b1;refine⟨l0,SR,v,rfl,rfl,b2,by rw[<- b4.length];exact hz,k σ G1 _ ?_⟩;exact b7 (us++[.fz d]) (SR++[v]) (Gw++([]++[])) (b4.append (us:=[.fz d]) ⟨v,[],[],[],rfl,rfl,⟨rfl,vS⟩,rfl,rfl⟩) (by simpa using b5) fun a ha=>.inl (by simpa using ha)
end
theorem CM {xs:List Dv}{k:Nat}{d:Dv}(h:(hZ xs)[k]?=some d):∃ x,xs[k]?=some x/\d=.tup [di (k:Nat),x]:=by
 unfold hZ at h;rw[RI]at h;cases hx:xs[k]? with
 |none =>
  rw[hx]at h;cases q2:(List.range xs.length)[k]? with
  |none=>rw[q2]at h;cases h
  |some z=>rw[q2]at h;cases h
 |some x =>
  have lj:k<xs.length:=(ir.mp hx).1;rw[hx,CS lj]at h;cases h;exact⟨x,rfl,rfl⟩
theorem NU (xs:List Dv):(hZ xs).length=xs.length:=by unfold hZ;rw[ajB,Cf,ajE]
theorem uG {α:Type}(l:List α)(f : α->Int):er (.ow (l.map fun k=>Tr.fz (di (f k))))=dis (l.map f):=by
 show Dv.lst _=Dv.lst _;rw[kG,gz,gz];rfl
theorem Yr (ws:List V):er (.ow (ws.map fun v=>Tr.fz (.fl v)))=.lst (ws.map .fl):=by
 show Dv.lst _=Dv.lst _;rw[kG,gz];rfl
abbrev aU (l:LI):Tr:=.ow (l.map fun n=>.fz (di n))
abbrev fO (L:LL):Tr:=.ow (L.map aU)
theorem eZ (l:LI):er (aU l)=dis l:=by
 show Dv.lst _=_;rw[kG,gz];rfl
theorem lM (L:LL):er (fO L)=.lst (L.map dis):=by
 show Dv.lst _=_;rw[kG,gz];congr 1;exact ma fun l _=>eZ l
theorem MM:∀ L:LL,oX (L.map aU)
 |[] => True.intro
 |l::L=>⟨rQ l,MM L⟩
theorem Ys (L:LL):fj (.lst (L.map dis))<=2:=CL fun d hd=>by
 obtain⟨m,_,rfl⟩:=i4.mp hd;exact xO m
def gP (c:LI)(os:LL):Dv:=.tup [dis c,.lst (os.map dis)]
def lU (n:Nat)(o:LI):LI:=((List.range n).filter fun k=>!o.contains (0+((k:Nat):Int))).map fun k=>0+((k:Nat):Int)
def cP (n:Nat)(o:LI):LI:=o++[(n:Int)]++lU n o
theorem BH (n:Nat)(o:LI):(lU n o).length<=n:=by
 unfold lU;rw[aa];have:=IS (fun k=>!o.contains (0+((k:Nat):Int))) (List.range n);rwa [Cf]at this
theorem Yt {α:Type}{l:List α}{k:Nat}{x : α}(h:l[k]?=some x):bu l ((k:Nat):Int)=some x:=iV h
structure gq (c:LI) (os:LL):Prop where
 c6:c.length<=6
 cnt:∀ x ∈ c,0<=x/\x<=9
 o1 : 1<=os.length
 o6:os.length<=6
 nd:∀ o ∈ os,o.Nodup
 cF:∀ o ∈ os,∀ x ∈ o,0<=x/\x<c.length
theorem rn {n:Nat}{l:LI}(nd:l.Nodup)(h:∀ x ∈ l,0<=x/\x<n):l.length<=n:=by
 have sub:l ⊆ (List.range n).map fun k=>((k:Nat):Int):=fun x hx=>by
  obtain⟨h0,h1⟩:=h x hx;exact i4.mpr ⟨x.toNat,VT.mpr (by omega),by omega⟩
 have:=nd.length_le_of_subset sub;simpa using this
theorem gq.nG {c:LI}{os:LL}(h:gq c os){o:LI}(ho:o ∈ os):o.length<=6:=zd (rn (h.nd o ho) (h.cF o ho)) h.c6
theorem bp.to {ι:Type}{F:bc ι}{tg iter:Expr}{ρ:En}{a b:List Dv}(h:bp F tg iter ρ a)(e:a=b):bp F tg iter ρ b:=e ▸ h
theorem LJ {α:Type}:∀ {l:List α} {m:Nat} (h:m<l.length),(l[m]::l.eraseIdx m).Perm l
 |x::l,0,_=>.refl _
 |x::l,m+1,h=>by
  have h':m<l.length:=by simpa using h
  show(l[m]::x::l.eraseIdx m).Perm (x::l);exact(List.Perm.swap ..).trans ((LJ h').cons x)
theorem L8 {α β:Type}(f : α->β):∀ (l:List α) (m:Nat),(l.map f).eraseIdx m=(l.eraseIdx m).map f
 |[],_=>rfl
 |_::_,0=>rfl
 |x::l,m+1=>by
  show f x::(l.map f).eraseIdx m=f x::(l.eraseIdx m).map f;rw[L8 f l m]
theorem MN {ι:Type}{F:bc ι}{ρ1 ρ2:En}(f:Fg ρ1 ρ2):bw F [] ρ1 (.nx ρ2):=bw.fg uo f
section
variable {ι:Type}{F:bc ι}{e a b c:Expr}{es:List Expr}{ρ:En}{t ta tb':Tr}{ts:List Tr}{pos:Pos}
theorem dz.move {K:Frag}{G0 H0 G H:Hp}{ρ:En}{σ:St}{fp:List Addr}{j j2:Nat}{us:List Tr}{t:Tr}(r:dz K G0 H0 G H ρ σ fp)(Gu:j ≠ j2)(h : ρ[j]?=some (some (.ow us)))(h2 : ρ[j2]?=some (some t)) :
  ∃ l vs v,σ[j]?=some (some (.ref l))/\σ[j2]?=some (some v)/\H l=some (.lst vs)/\us.length=vs.length/\RS K G0 H0 G (upd H l (.lst (vs++[v]))) ((ρ.set j2 none).set j (some (.ow (us++[t])))) σ:=by
 obtain⟨v2,f2,fr2,a1,a2,a3,a4⟩:=r.own.split h2;obtain⟨v,f,fr,b1,b2,b3,b4⟩:=a3.split (j:=j) (t:=.ow us) (by rw[BY (Ne.symm Gu)];exact h);obtain⟨l,vs,fq,rfl,hl,ol,rfl⟩:=b2;have pm:fp.Perm (f2++((l::fq)++fr)):=a4.trans (ajh _ b4);have nd:=pm.nodup_iff.mp r.d;have SU:=r8.mp nd;have SV:=r8.mp SU.2.1;have nd3:=BB.mp SV.1;have kr:l ∉ f2:=fun z=>SU.2.2 l z l (nv _ (.head _)) rfl
 have lfr:l ∉ fr:=fun z=>SV.2.2 l (.head _) l z rfl
 have SW:l ∈ fp:=pm.mem_iff.mpr (ij _ (nv _ (.head _)));have lt:j<(ρ.set j2 none).length:=by
  rw[ET];rcases JJ j ρ.length with z | z
  ·exact z
  ·rw[nt z]at h;cases h
 have own:Ow K G (upd H l (.lst (vs++[v2]))) (.ow (us++[t])) (.ref l) (l::(fq++(f2++[]))) :=
  ⟨l,vs++[v2],fq++(f2++[]),rfl,bO,(ol.frame nd3.1).append ⟨v2,[],f2,[],rfl,rfl,a2.frame kr,rfl,rfl⟩,rfl⟩
 obtain⟨dC,p1,p2⟩:=(b3.frame (o:=.lst (vs++[v2])) lfr).put (qH lt) own;rw[WA,ua b1]at p1;have vT:dC.Perm fp:=by
  refine p2.trans (List.Perm.trans ?_ pm.symm);rw[FF];have:((l::(fq++f2))++fr).Perm ((f2++(l::fq))++fr):=ajU fr (by
   show((l::fq)++f2).Perm (f2++(l::fq));exact aj3)
  rw[ID]at this;exact this
 refine⟨l,vs,v2,b1,a1,hl,ol.length,dC,⟨r.st.g,fun b u hb=>?_,fun b u hb=>?_,r.st.n⟩,p1,fun a ha=>r.g a (vT.mem_iff.mp ha),fun a ha=>r.n a (vT.mem_iff.mp ha),vT.nodup_iff.mpr r.d⟩
 ·have mL:=r.st.h b u hb;rw[aQ fun z=>?_]
  ·exact mL
  ·subst z;rw[r.n _ SW]at hb;cases hb
 ·have mL:=r.st.s b u hb;rw[aQ fun z=>?_]
  ·exact mL
  ·subst z;rw[r.g _ SW]at hb;cases hb
theorem Ce {α β:Type}(q : α->Bool)(h : α->β)(d : β):∀ l:List α,((List.range l.length).filter fun k=>((l[k]?).map q).getD false).map (fun k=>((l[k]?).map h).getD d)=(l.filter q).map h
 |[] => rfl
 |a::l=>by
  have ih:=Ce q h d l;rw[AN,ajT,Lm,Lm,ajM];show List.map _ (if q a=true then _ else _)=_;cases q a with
  |true =>
   show h a::((_:List Nat).map Nat.succ).map _=h a::_;rw[gz,<- ih];rfl
  |false =>
   show((_:List Nat).map Nat.succ).map _=_;rw[gz];exact ih
variable {js:List Nat}{sp:Dv->Option (List Dv)}{elt tg iter:Expr}
theorem Fc {α:Type}(l:List α)(g : α->Dv)(q : α->Bool)(h : α->Tr){ifs:List Expr}{sc:Scope}{own:List Str}{fr:List Nat}{cl : ι->List (Str×Addr)}(hi:bp F tg iter ρ (l.map g))(hg:jL (de F own fr sc cl) tg js sp)(km:∀ j ∈ js,j<own.length)(hz:l.length<sizeLine)(step:∀ a ∈ l,∃ dd,sp (g a)=some dd/\El (de F own fr sc cl) ifs (bT js (dd.map .fz) (cU own fr ρ)) (q a)/\(q a=true->Ev (de F own fr sc cl) elt (bT js (dd.map .fz) (cU own fr ρ)) (h a)))(e9:∀ dd:List Dv,iY js (bT js (dd.map .fz) (cU own fr ρ))=cU own fr ρ):dD F own fr sc cl elt tg iter ifs ρ (.ow ((l.filter q).map h)):=by
 have:=Gi (ifs:=ifs) hi hg km (fun k=>((l[k]?).map q).getD false) (fun k=>((l[k]?).map h).getD tn) (by rw[aa];exact hz) (fun k d hd=>by
  obtain⟨a,ha,rfl⟩:=dH hd;obtain⟨dd,s1,s2,s3⟩:=step a (mT ha);refine⟨dd,s1,?_,?_⟩
  ·show El _ _ _ (((l[k]?).map q).getD false);rw[ha];exact s2
  ·show((l[k]?).map q).getD false=true->Ev _ _ _ (((l[k]?).map h).getD tn);rw[ha];exact s3) e9
 rw[aa,Ce]at this;exact this
theorem j7 {α:Type}(l:List α)(g : α->Dv)(h : α->Tr){sc:Scope}{own:List Str}{fr:List Nat}{cl : ι->List (Str×Addr)}(hi:bp F tg iter ρ (l.map g))(hg:jL (de F own fr sc cl) tg js sp)(km:∀ j ∈ js,j<own.length)(hz:l.length<sizeLine)(step:∀ a ∈ l,∃ dd,sp (g a)=some dd/\Ev (de F own fr sc cl) elt (bT js (dd.map .fz) (cU own fr ρ)) (h a))(e9:∀ dd:List Dv,iY js (bT js (dd.map .fz) (cU own fr ρ))=cU own fr ρ):dD F own fr sc cl elt tg iter [] ρ (.ow (l.map h)):=by
 have:=Fc l g (fun _=>true) h hi hg km hz (fun a ha=>let ⟨dd,s1,s2⟩:=step a ha;⟨dd,s1,yd,fun _=>s2⟩) e9;rwa [ai8.mpr fun _ _=>rfl]at this
theorem kJ {α:Type}(l:List α)(g : α->Dv)(q : α->Bool)(h : α->Tr){ifs:List Expr}{sc:Scope}{own:List Str}{fr:List Nat}{cl : ι->List (Str×Addr)}(L:∀ i,iW (F.cx i) sc (cl i) fr)(hi:bp F tg iter ρ (l.map g))(hg:jL (de F own fr sc cl) tg js sp)(km:∀ j ∈ js,j<own.length)(hz:l.length<sizeLine)(step:∀ a ∈ l,∃ dd,sp (g a)=some dd/\El (de F own fr sc cl) ifs (bT js (dd.map .fz) (cU own fr ρ)) (q a)/\(q a=true->Ev (de F own fr sc cl) elt (bT js (dd.map .fz) (cU own fr ρ)) (h a)))(e9:∀ dd:List Dv,iY js (bT js (dd.map .fz) (cU own fr ρ))=cU own fr ρ)(hs:∀ i x,foldedSetIterable iter (F.cx i).env x=pure x:=by intro _ _;rfl):Ev F (.ListComp elt [⟨tg,iter,ifs,0⟩] sc pos) ρ (.ow ((l.filter q).map h)):=by
 have:=sJ (ifs:=ifs) (pos:=pos) L hi hg km (fun k=>((l[k]?).map q).getD false) (fun k=>((l[k]?).map h).getD tn) (by rw[aa];exact hz) (fun k d hd=>by
  obtain⟨a,ha,rfl⟩:=dH hd;obtain⟨dd,s1,s2,s3⟩:=step a (mT ha);refine⟨dd,s1,?_,?_⟩
  ·show El _ _ _ (((l[k]?).map q).getD false);rw[ha];exact s2
  ·show((l[k]?).map q).getD false=true->Ev _ _ _ (((l[k]?).map h).getD tn);rw[ha];exact s3) e9 hs
 rw[aa,Ce]at this;exact this
theorem fL {α:Type}(l:List α)(g : α->Dv)(h : α->Tr){sc:Scope}{own:List Str}{fr:List Nat}{cl : ι->List (Str×Addr)}(L:∀ i,iW (F.cx i) sc (cl i) fr)(hi:bp F tg iter ρ (l.map g))(hg:jL (de F own fr sc cl) tg js sp)(km:∀ j ∈ js,j<own.length)(hz:l.length<sizeLine)(step:∀ a ∈ l,∃ dd,sp (g a)=some dd/\Ev (de F own fr sc cl) elt (bT js (dd.map .fz) (cU own fr ρ)) (h a))(e9:∀ dd:List Dv,iY js (bT js (dd.map .fz) (cU own fr ρ))=cU own fr ρ)(hs:∀ i x,foldedSetIterable iter (F.cx i).env x=pure x:=by intro _ _;rfl):Ev F (.ListComp elt [⟨tg,iter,[],0⟩] sc pos) ρ (.ow (l.map h)):=by
 have:=kJ (pos:=pos) l g (fun _=>true) h L hi hg km hz (fun a ha=>let ⟨dd,s1,s2⟩:=step a ha;⟨dd,s1,yd,fun _=>s2⟩) e9 hs;rwa [ai8.mpr fun _ _=>rfl]at this
theorem dk {α:Type}(l:List α)(h : α->Tr):er (.ow (l.map h))=.lst (l.map fun a=>er (h a)):=by
 show Dv.lst (fX _)=_;rw[kG,gz];rfl
end
end L2
namespace L2
open PySem PySem.Spec PyProof.Rows cY
section
variable {ι:Type}{F:bc ι}{e a b c:Expr}{es:List Expr}{ρ:En}{t ta tb':Tr}{ts:List Tr}{pos:Pos}
theorem jR {k:Nat}{f:Addr}{fd:FuncData}{ps:List Str}{R:List Dv->Tr->Prop}{x:Str}{n:Int}{tk:Tok}(Fn:Kn F.P F.w F.K F.mg F.base ak k x f fd ps (spT F.K R))(B:Binds F.K fd ps [.int n tk])(hk:k<=F.room)(ha:jt F (e::es) ρ ts)(hR:R (fX ts++[di n]) t){p':Pos}(hg:∀ i,Gl (F.cx i) x:=by intro _;rfl)(iw:(x==("__debug__" : Str))=false:=by decide)(he:∀ i,starEach (e::es) (F.cx i).env=(false,eval e (F.cx i).env)::starEach es (F.cx i).env:=by intro _;rfl)(gS:∀ i,(backTo pos (starEach es (F.cx i).env)).any (·.1)=false:=by intro _;rfl):Ev F (.Call (.Name x p') (e::es) [] pos) ρ t:=by
 obtain⟨τ,y,z⟩:=ha.use;refine⟨sD (spT F.K R) [.int n] E0 τ,fun i=>?_,fun σ G H Q s rr k=>z σ G H _ s rr fun vs G1 H1 s1 hx=>?_⟩
 ·have vL:Kn (F.cx i).prog (F.cx i).w (F.cx i).K (F.cx i).mg (F.cx i).base ak k x f fd ps (spT F.K R):=by
   rw[F.hP i,F.hw i,F.hK i,F.hm i,F.hb i];exact Fn
  exact NA vL.ok ((F.hr i).mono hk) (hg i) vL.Sx vL.kp (by rw[F.hK i];exact B) (.cons ⟨tk,rfl⟩ .nil) P6 (y i) iw (he i) (gS i)
 ·show spT F.K R (vs++[.int n]) H1 Q E0;have app:∀ {ds:List Dv} {vs:List V},bC F.K G1 ds vs->bC F.K G1 (ds++[di n]) (vs++[.int n]):=by
   intro ds
   induction ds with
   |nil=>intro vs h;have h':vs=[]:=h;subst h';exact⟨_,_,rfl,⟨rfl,rfl⟩,rfl⟩
   |cons d ds ih=>intro vs ⟨x,r,h1,h2,h3⟩;subst h1;exact⟨x,_,rfl,h2,ih h3⟩
  exact⟨G1,_,t,s1.s,app hx,hR,k.step s1⟩
end
abbrev dF (p:Int×Int):Dv:=.tup [di p.1,di p.2]
abbrev tF (p:Int×Int):Tr:=.fz (dF p)
def fW (W s:Int):Int×Int:=(lT s W,lB s W)
theorem dI {W s:Int}(h : 0<W) : 0<(fW W s).2:=by have:=yy (t:=s) (show W ≠ 0 by omega);show 0<lB s W;omega
theorem yA {W s:Int}(h : 0<W):(fW W s).2<=W:=by have:=ab1 (t:=s) (show W ≠ 0 by omega);show lB s W<=W;omega
theorem uH {W s:Int}(h : 0<W):(fW W s).1.natAbs<=s.natAbs:=aaU (show W ≠ 0 by omega)
theorem gg {W s:Int}(h : 0<W):(fW W s).1*W=s*(fW W s).2:=CK (show W ≠ 0 by omega)
theorem Dy {W s:Int}(h : 0<W):Int.gcd (fW W s).1 (fW W s).2=1:=BF (show W ≠ 0 by omega)
theorem XI {W s:Int}(h : 0<W)(hs : 0<=s) : 0<=(fW W s).1:=by
 have c:=gg (s:=s) h;have p:=dI (s:=s) h;rcases aji (fW W s).1 0 with z | z
 ·have:(fW W s).1*W<0:=Int.mul_neg_of_neg_of_pos z h;have : 0<=s*(fW W s).2:=Nd hs (by omega);omega
 ·exact z
theorem kH {W s t b:Int}(h : 0<W)(hb:b ≠ 0)(e:t*W=s*b):(lT t b,lB t b)=fW W s:=by
 obtain⟨h1,h2⟩:=acI hb (show W ≠ 0 by omega) e;show _=(_,_)
 rw[h1,h2]
theorem ZA {W s t:Int}(h : 0<W):(lT ((fW W s).1*(fW W t).2+(fW W t).1*(fW W s).2) ((fW W s).2*(fW W t).2),lB ((fW W s).1*(fW W t).2+(fW W t).1*(fW W s).2) ((fW W s).2*(fW W t).2))=fW W (s+t):=by
 have p1:=dI (s:=s) h;have p2:=dI (s:=t) h;have c1:=gg (s:=s) h;have c2:=gg (s:=t) h;generalize (fW W s).1=a at *;generalize (fW W s).2=b at *;generalize (fW W t).1=c at *;generalize (fW W t).2=d at *;refine kH h (by have:=NJ p1 p2;omega) ?_;have e1:(a*d+c*b)*W=(a*W)*d+(c*W)*b:=by
  rw[SI,BN a d W,BN c b W]
 rw[e1,c1,c2,SI,ES s b d,ES t d b,Me d b]
theorem O0 {W s t:Int}(h : 0<W)(e:fW W s=fW W t):s=t:=by
 have c1:=gg (s:=s) h;have c2:=gg (s:=t) h;rw[e]at c1;have p:=dI (s:=t) h;have:s*(fW W t).2=t*(fW W t).2:=by rw[<- c1,<- c2]
 exact EN (by omega) this
theorem NV {W:Int}(h : 0<W):fW W W=(1,1):=by
 have:=w4 (t:=W) (b:=W) (p:=1) (q:=1) (by omega) (by decide) (by decide) (by rw[akW,ai6]);show(_,_)=_;rw[<- this.1,<- this.2]
theorem xP {W:Int}(h : 0<W):fW W 0=(0,1):=by
 have:=w4 (t:=0) (b:=W) (p:=0) (q:=1) (by omega) (by decide) (by decide) (by rw[LG,LG]);show(_,_)=_;rw[<- this.1,<- this.2]
theorem ab4 {W s t:Int}(h : 0<W):(fW W s).1*(fW W t).2<(fW W t).1*(fW W s).2 ↔ s<t:=by
 have p1:=dI (s:=s) h;have p2:=dI (s:=t) h;have c1:=gg (s:=s) h;have c2:=gg (s:=t) h;generalize (fW W s).1=a at *;generalize (fW W s).2=b at *;generalize (fW W t).1=c at *;generalize (fW W t).2=d at *;have bd : 0<b*d:=NJ p1 p2;have e1:a*d*W=s*(b*d):=by rw[BN,c1,ES]
 have e2:c*b*W=t*(b*d):=by rw[BN,c2,ES,Me d b]
 constructor
 ·intro z;have:=YA z h;rw[e1,e2]at this;exact akr this (by omega)
 ·intro z;have:=YA z bd;rw[<- e1,<- e2]at this;exact akr this (by omega)
end L2
namespace L2
open PySem PySem.Spec PyProof.Rows
section
variable {ι:Type}{F:bc ι}{e a b c:Expr}{es:List Expr}{ρ:En}{t ta tb':Tr}{ts:List Tr}{pos:Pos}
theorem Rn.to {st:Stmt}{ρ1 ρ2:En}(h:Rn F st ρ (.nx ρ1))(e : ρ1=ρ2):Rn F st ρ (.nx ρ2):=e ▸ h
end
theorem RS.dP {K:Frag}{G0 H0 G H:Hp}{ρ:En}{σ:St}{j:Nat}{t:Tr}(r:RS K G0 H0 G H ρ σ)(h : ρ[j]?=some (some t)):∃ G1,RS K G0 H0 G1 H (ρ.set j (some (.fz (er t)))) σ:=by
 obtain⟨fp,r⟩:=r;obtain⟨v,f,fr,q1,q2,q3,q4⟩:=r.own.split h;have nd:=q4.nodup_iff.mp r.d;have inf:∀ a ∈ f,a ∈ fp:=fun a ha=>q4.mem_iff.mpr (nv _ ha)
 have inr:∀ a ∈ fr,a ∈ fp:=fun a ha=>q4.mem_iff.mpr (ij _ ha)
 have w:Nw H0 G f:=⟨fun a ha=>r.n a (inf a ha),fun a ha=>r.g a (inf a ha),(r8.mp nd).1⟩
 have hv:Hv K (eu G H f) (er t) v:=q2.hv (jy w.g) fun a ha=>iX ha
 have acL:aK K (eu G H f) H (ρ.set j none) σ fr:=q3.mono (jy w.g) (au.refl H);have hj:j < ρ.length:=by
  rcases JJ j ρ.length with z | z
  ·exact z
  ·rw[nt z]at h;cases h
 obtain⟨dC,p1,p2⟩:=acL.put (qH hj) (t:=.fz (er t)) (v:=v) (f:=[]) ⟨rfl,hv⟩;rw[WA]at p1;have es : σ.set j (some v)=σ:=by
  refine IF fun i=>?_
  rw[Lu];split
  ·rename_i e
   subst e;split
   ·exact q1.symm
   ·rename_i z;rw[nt (by omega)]at q1;cases q1
  ·rfl
 rw[es]at p1;have Gx:∀ a ∈ dC,a ∈ fr:=fun a ha=>by simpa using p2.mem_iff.mp ha
 refine⟨eu G H f,dC,r.st.dP w,p1,fun a ha=>?_,fun a ha=>r.n a (inr a (Gx a ha)),p2.nodup_iff.mpr (by simpa using (r8.mp nd).2.1)⟩;have hn:a ∉ f:=fun z=>(r8.mp nd).2.2 a z a (Gx a ha) rfl
 rw[mX hn];exact r.g a (inr a (Gx a ha))
section
variable {ι:Type}{F:bc ι}{cB:List Stmt}{ρ:En}{o:Out}{t:Tr}
theorem ZC (j:Nat)(h : ρ[j]?=some (some t))(hr:bw F cB (ρ.set j (some (.fz (er t)))) o):bw F cB ρ o:=by
 obtain⟨τ,x,y⟩:=hr;exact⟨τ,x,fun D σ G0 H0 G H r k=>by
  obtain⟨G1,r1⟩:=r.dP h;exact y D σ G0 H0 G1 H r1 k⟩
end
theorem sL {X:Cx}{lZ:List Str}{mK:List Nat}{cf:Scope}{nS:List (Str×Addr)}{C:Addr}{s:Shared}{H:Hp}{ex:List Addr}{pn:List (Addr×Obj)}{sc:Scope}{fr:List Nat}(N2:List Str)(L:MD N2 cf sc fr)(Gg:∀ y,(y,NameKind.free) ∈ cf.names->∃ c,nS.lookup y=some c)(eN:(lZ++mK.map fun j=>X.N.getD j "")=N2:=by rfl) :
  iW (dm X lZ mK cf nS C s H ex pn) sc (fN (cellsFrom (C+1) cf.names nS) sc.names []) fr:=by
 subst eN;exact acE L Gg
theorem NW {K:Frag}{G H:Hp}:∀ {o:LI} {xs:List V} {fq:List Addr},aE K G H (o.map fun n=>.fz (di n)) xs fq->xs=o.map V.int/\fq=[]
 |[],_,_,h=>h
 |n::o,_,_,⟨v,r,f1,f2,h1,h2,⟨h3,jr⟩,h4⟩=>by
  obtain⟨e1,e2⟩:=NW h4;subst h1 h2 h3 e1 e2;rw[aO jr];exact⟨rfl,rfl⟩
def Md (f:List Addr)(H H2:Hp):Prop:=∀ b o,b ∉ f->H b=some o->H2 b=some o
theorem Md.trans {f:List Addr}{H H1 H2:Hp}(a:Md f H H1)(b:Md f H1 H2):Md f H H2:=fun x o n h=>b x o n (a x o n h)
theorem Md.upd {f:List Addr}{H:Hp}{l:Addr}{o:HO}(hl:l ∈ f):Md f H (L2.upd H l o):=fun b u n h=>by
 rw[aQ (show b ≠ l from fun z=>n (z ▸ hl))];exact h
theorem Md.new {f:List Addr}{H:Hp}{l:Addr}{o:HO}(hl:H l=none):Md f H (L2.upd H l o):=fun b u n h=>by
 rw[aQ (show b ≠ l from fun z=>by subst z;rw[hl]at h;cases h)];exact h
theorem Md.same {f:List Addr}{H H':Hp}(s:au H H'):Md f H H':=fun b o _ h=>s b o h
theorem aK.vd {K:Frag}{G H:Hp}{u:Option V}:∀ {ρ:En} {σ:St} {fp:List Addr} {y:Nat},aK K G H ρ σ fp->ρ[y]?=some none->aK K G H ρ (σ.set y u) fp
 |none::_,_,_,0,⟨o,r,h1,h2⟩,_=>by subst h1;exact⟨u,r,rfl,h2⟩
 |none::_,_,_,y+1,⟨o,r,h1,h2⟩,h=>by subst h1;exact⟨o,_,rfl,aK.vd (y:=y) h2 h⟩
 |some _::_,_,_,0,_,h=>by cases h
 |some _::_,_,_,y+1,⟨v,r,f1,f2,h1,h2,h3,h4⟩,h=>by subst h1;exact⟨v,_,f1,f2,rfl,h2,h3,aK.vd (y:=y) h4 h⟩
theorem RS.vd {K:Frag}{G0 H0 G H:Hp}{ρ:En}{σ:St}{y:Nat}{u:Option V}(r:RS K G0 H0 G H ρ σ)(h : ρ[y]?=some none):RS K G0 H0 G H ρ (σ.set y u):=by
 obtain⟨fp,r⟩:=r;exact⟨fp,r.st,r.own.vd h,r.g,r.n,r.d⟩
theorem aaZ {ι:Type}{F:bc ι}{own:List Str}{fr:List Nat}{sc:Scope}{cl : ι->List (Str×Addr)}{elt tg iter:Expr}{ifs:List Expr}{ρ:En}{t:Tr}{pos kQ py:Pos}(j:Nat){x:Str}(h:dD F own fr sc cl elt tg iter ifs ρ t)(L:∀ i,iW (F.cx i) sc (cl i) fr)(hN:∀ i,(F.cx i).N.Nodup)(hi:∀ i,(F.cx i).N[j]?=some x:=by intro _;rfl)(hx:∀ i,Loc (F.cx i).env.scope x:=by intro _;first | exact Or.inl rfl | exact Or.inr rfl)(kj:∀ i,swapsWith (.ListComp elt [⟨tg,iter,ifs,0⟩] sc pos) (some (.Name x py)) kQ.line (F.cx i).env=pure true:=by intro _;rfl)(hf:∀ i,(F.cx i).fn x=true\/(F.cx i).env.scope.names.lookup x=some .local:=by intro _;first | exact .inl rfl | exact .inr rfl)(hs:∀ i x,foldedSetIterable iter (F.cx i).env x=pure x:=by intro _ _;rfl) :
  ∃ τ,(∀ i,PS (F.cx i) (.Assign [.Name x py] (.ListComp elt [⟨tg,iter,ifs,0⟩] sc pos) kQ) τ)/\∀ D σ G H,au G H->cj F.K G ρ σ->(∀ v G' H' fq,Step G H G' H'->Ow F.K G' H' t v fq->Nw H G' fq->D.nx (σ.set j (some v)) H')->τ D σ H:=by
 obtain⟨τ,⟨wi,g,tt,te,rfl,h1,h2,h3,h4⟩,z⟩:=h;refine⟨_,fun i=>MK (cl:=cl i) (L i) (F.calm i) (h1 i) (fun C s H ex pn=>h2 (i,⟨C,s,H,ex,pn⟩)) (fun C s H ex pn=>h3 (i,⟨C,s,H,ex,pn⟩)) (fun C s H ex pn=>h4 (i,⟨C,s,H,ex,pn⟩)) (hN i) (hi i) (hx i) (kj i) (hf i) (hs i),fun D σ G H s r k=>?_⟩;exact z σ G H _ s r fun v G1 H1 fq s1 o w=>k v G1 H1 fq s1 o w
def Fe:Dv->Bool
 | .fl _=>true
 |_=>false
def SX:Dv->Bool
 | .fl _=>true
 | .lst _=>false
 | .tup ds=>ds.all Fe
mutual
def zE:Tr->Bool
 | .fz d=>SX d
 | .ow ts=>ve ts
 | .tp ts=>ve ts
def ve:List Tr->Bool
 |[] => true
 |t::ts=>zE t&&ve ts
end
def Gy:Tr->Bool
 | .fz _=>false
 |_=>true
mutual
def pW:Tr->Bool
 | .fz _=>true
 | .ow ts=>jG ts
 | .tp ts=>ts.any Gy&&jG ts
def jG:List Tr->Bool
 |[] => true
 |t::ts=>pW t&&jG ts
end
theorem xQ:∀ {ts:List Tr},(∀ t ∈ ts,pW t=true)->jG ts=true
 |[],_=>rfl
 |t::ts,h=>by
  show(pW t&&jG ts)=true;rw[h t (.head _),xQ fun t' ht=>h t' (.tail _ ht)];rfl
def Gd (H:Hp)(a:Addr):Prop:=(∃ xs,H a=some (.lst xs))\/∃ xs b,H a=some (.tup xs)/\V.ref b ∈ xs
theorem NX {K:Frag}{G H:Hp}:∀ {ts:List Tr} {vs:List V} {fp:List Addr},aE K G H ts vs fp->ts.any Gy=true->∃ b,V.ref b ∈ vs
 |[],_,_,_,h=>by cases h
 |t::ts,_,_,⟨v,r,f1,f2,h1,h2,h3,h4⟩,h=>by
  subst h1;rw[Pf,ak0]at h;rcases h with h | h
  ·cases t with
   |fz d=>cases h
   |ow us=>obtain⟨a,_,_,rfl,_⟩:=h3;exact⟨a,.head _⟩
   |tp us=>obtain⟨a,_,_,rfl,_⟩:=h3;exact⟨a,.head _⟩
  ·obtain⟨b,hb⟩:=NX h4 h;exact⟨b,.tail _ hb⟩
mutual
theorem Ow.gd {K:Frag}{G H:Hp}:∀ {t:Tr} {v:V} {fp:List Addr},Ow K G H t v fp->pW t=true->∀ a ∈ fp,Gd H a
 | .fz _,_,_,⟨h,_⟩,_,a,ha=>by subst h;cases ha
 | .ow ts,_,_,⟨b,vs,fq,h1,h2,h3,h4⟩,g,a,ha=>by
  subst h4;rcases gr.mp ha with rfl | ha
  ·exact .inl ⟨_,h2⟩
  ·exact aE.gd h3 g a ha
 | .tp ts,_,_,⟨b,vs,fq,h1,h2,h3,h4⟩,g,a,ha=>by
  subst h4;have g':(ts.any Gy&&jG ts)=true:=g;rw[BS]at g';rcases gr.mp ha with rfl | ha
  ·obtain⟨c,hc⟩:=NX h3 g'.1;exact .inr ⟨_,c,h2,hc⟩
  ·exact aE.gd h3 g'.2 a ha
theorem aE.gd {K:Frag}{G H:Hp}:∀ {ts:List Tr} {vs:List V} {fp:List Addr},aE K G H ts vs fp->jG ts=true->∀ a ∈ fp,Gd H a
 |[],_,_,⟨_,h⟩,_,a,ha=>by subst h;cases ha
 |t::ts,_,_,⟨v,r,f1,f2,h1,h2,h3,h4⟩,g,a,ha=>by
  subst h2;have g':(pW t&&jG ts)=true:=g;rw[BS]at g';rcases wb.mp ha with ha | ha
  ·exact h3.gd g'.1 a ha
  ·exact aE.gd h4 g'.2 a ha
end
def zF (ρ:En):Bool:=ρ.all fun o=>match o with
 |none=>true
 |some t=>pW t
theorem aK.gd {K:Frag}{G H:Hp}:∀ {ρ:En} {σ:St} {fp:List Addr},aK K G H ρ σ fp->zF ρ=true->∀ a ∈ fp,Gd H a
 |[],_,_,⟨_,h⟩,_,a,ha=>by subst h;cases ha
 |none::ρ,_,_,⟨o,r,h1,h2⟩,g,a,ha=>aK.gd (ρ:=ρ) h2 g a ha
 |some t::ρ,_,_,⟨v,r,f1,f2,h1,h2,h3,h4⟩,g,a,ha=>by
  subst h2;have g':(pW t&&zF ρ)=true:=g;rw[BS]at g';rcases wb.mp ha with ha | ha
  ·exact h3.gd g'.1 a ha
  ·exact aK.gd h4 g'.2 a ha
theorem L9 {K:Frag}{G:Hp}:∀ {ds:List Dv} {xs:List V},bC K G ds xs->ds.all Fe=true->(∀ G',bC K G' ds xs)/\∀ b,V.ref b ∉ xs
 |[],_,h,_=>by rw[show _=[]from h];exact⟨fun _=>rfl,fun _ z=>nomatch z⟩
 | .fl v::ds,_,⟨x,r,h1,h2,h3⟩,g=>by
  subst h1;obtain⟨q1,q2⟩:=L9 h3 (show ds.all Fe=true from g);obtain⟨rfl,hf⟩:=h2;refine⟨fun G'=>⟨_,r,rfl,⟨rfl,hf⟩,q1 G'⟩,fun b z=>?_⟩;rcases gr.mp z with z | z
  ·subst z;cases hf
  ·exact q2 b z
 | .lst _::_,_,_,g=>by cases g
 | .tup _::_,_,_,g=>by cases g
theorem Hv.lf {K:Frag}{G:Hp}{fp:List Addr}(hg:∀ a ∈ fp,Gd G a):∀ {d:Dv} {v:V},Hv K G d v->SX d=true->Hv K (less G fp) d v
 | .fl _,_,h,_=>h
 | .lst _,_,_,g=>by cases g
 | .tup ds,_,⟨a,xs,h1,h2,h3⟩,g=>by
  obtain⟨q1,q2⟩:=L9 h3 g;refine⟨a,xs,h1,?_,q1 _⟩;have out:∀ o,G a=some o->(∀ xs,o ≠ .lst xs)->(∀ ys,o=.tup ys->ys=xs)->less G fp a=some o:=fun o ho n1 n2=>by
   rw[rE fun z=>?_]
   ·exact ho
   ·rcases hg a z with⟨ys,hy⟩ | ⟨ys,b,hy,hb⟩
    ·rw[ho]at hy;cases hy;exact n1 ys rfl
    ·rw[ho]at hy;cases hy;rw[n2 ys rfl]at hb;exact q2 b hb
  rcases h2 with(h | ⟨o,h⟩) | h
  ·exact .inl (.inl (out _ h (fun _ z=>nomatch z) fun ys z=>by cases z;rfl))
  ·exact .inl (.inr ⟨o,out _ h (fun _ z=>nomatch z) fun ys z=>nomatch z⟩)
  ·exact .inr h
mutual
theorem Ow.lf {K:Frag}{G H:Hp}{fp:List Addr}(hg:∀ a ∈ fp,Gd G a):∀ {t:Tr} {v:V} {fq:List Addr},Ow K G H t v fq->zE t=true->Ow K (less G fp) H t v fq
 | .fz _,_,_,⟨h1,h2⟩,g=>⟨h1,h2.lf hg g⟩
 | .ow _,_,_,⟨b,vs,fq,h1,h2,h3,h4⟩,g=>⟨b,vs,fq,h1,h2,aE.lf hg h3 g,h4⟩
 | .tp _,_,_,⟨b,vs,fq,h1,h2,h3,h4⟩,g=>⟨b,vs,fq,h1,h2,aE.lf hg h3 g,h4⟩
theorem aE.lf {K:Frag}{G H:Hp}{fp:List Addr}(hg:∀ a ∈ fp,Gd G a):∀ {ts:List Tr} {vs:List V} {fq:List Addr},aE K G H ts vs fq->ve ts=true->aE K (less G fp) H ts vs fq
 |[],_,_,h,_=>h
 |t::ts,_,_,⟨v,r,f1,f2,h1,h2,h3,h4⟩,g=>by
  have g':(zE t&&ve ts)=true:=g;rw[BS]at g';exact⟨v,r,f1,f2,h1,h2,h3.lf hg g'.1,aE.lf hg h4 g'.2⟩
end
theorem Ev.pkL {ι:Type}{F:bc ι}{e:Expr}{ρ:En}{t:Tr}(h:Ev F e (L2.pk ρ) t)(c:zE t=true)(hρ:zF ρ=true):bx F e ρ t:=by
 obtain⟨τ,x,y⟩:=h;refine⟨τ,x,fun σ G H fp Q s r hg k=>?_⟩;refine y σ (eu G H fp) H Q (ou s) (r.pk (jy hg) fun a ha=>iX ha) fun v G' H' fq st o w=>?_
 have gd:∀ a ∈ fp,Gd G' a:=fun a ha=>by
  rcases r.gd hρ a ha with⟨xs,q⟩ | ⟨xs,b,q,hb⟩
  ·exact .inl ⟨xs,st.g _ _ ((iX ha).trans q)⟩
  ·exact .inr ⟨xs,b,st.g _ _ ((iX ha).trans q),hb⟩
 refine k v (less G' fp) H' fq ⟨fun b u hb=>?_,st.h,MI.trans st.s,fun a h h'=>?_⟩ (o.lf gd c) ⟨w.n,fun a ha=>?_,w.d⟩
 ·have nb:b ∉ fp:=fun z=>by rw[hg b z]at hb;cases hb
  rw[rE nb];exact st.g _ _ ((mX nb).trans hb)
 ·have nb:a ∉ fp:=fun z=>h' (xH z)
  rw[rE nb]at h';exact st.n a ((mX nb).trans h) h'
 ·by_cases z:a ∈ fp
  ·exact xH z
  ·rw[rE z];exact w.g a ha
end L2
namespace L2
open PySem PySem.Spec PyProof.Rows
theorem Ee {ι:Type}{F:bc ι}{e:Expr}{ρ:En}{t:Tr}{σ:St}{G H:Hp}{Q:VK}(h:Ev F e ρ t)(s:au G H)(r:cj F.K G ρ σ)(k:Kv F.K G H t Q):uE F e σ H Q:=let ⟨τ,x,y⟩:=h;⟨τ,x,y σ G H Q s r k⟩
theorem yB {ι:Type}{F:bc ι}{e:Expr}{ρ:En}{b:Bool}{σ:St}{G H:Hp}{Q:Bool->Hp->Prop}(h:Et F e ρ b)(s:au G H)(r:cj F.K G ρ σ)(k:∀ G' H',Step G H G' H'->Q b H'):uT F e σ H Q:=let ⟨τ,x,y⟩:=h;⟨τ,x,y σ G H Q s r k⟩
section
variable {ι:Type}{F:bc ι}{ρ:En}{t:Tr}{c:Expr}{A cB:List Stmt}{pos:Pos}
theorem NY {p:Bool}(hc:cK F c ρ p)(h1:p=true->bw F A ρ (.rt t))(h2:p=false->bw F cB ρ (.rt t)):bw F (.If c A [] pos::cB) ρ (.rt t):=by
 cases p with
 |true=>exact xI (oN hc rfl (h1 rfl))
 |false=>exact ax (cH hc rfl) (h2 rfl)
end
section
variable {X:Cx}
theorem Dz {K:Frag}{H:Hp}:∀ {ds:List Dv} {xs:List V} {m:Nat} {d:Dv},bC K H ds xs->ds[m]?=some d->∃ x,xs[m]?=some x/\Hv K H d x
 |d0::ds,_,0,d,⟨x,r,h1,h2,_⟩,h=>by cases h;subst h1;exact⟨x,rfl,h2⟩
 |d0::ds,_,m+1,d,⟨x,r,h1,_,h3⟩,h=>by
  subst h1;exact Dz (ds:=ds) (xs:=r) (m:=m) h3 h
 |[],_,m,d,_,h=>by cases m<;>cases h
end
section
variable {κ:Type} [DecidableEq κ]
def eU (kvs:List (κ×V))(k : κ):Option V:=(kvs.find? fun kv=>decide (kv.1=k)).map (·.2)
def putK (kvs:List (κ×V))(k : κ)(v:V):List (κ×V) :=
 if(kvs.any fun kv=>decide (kv.1=k))=true then kvs.map (fun kv=>if kv.1=k then (kv.1,v)else kv)else kvs++[(k,v)]
theorem Cg {p : κ×V}{r:List (κ×V)}{k : κ}(e:p.1=k):eU (p::r) k=some p.2:=by simp[eU,ai0,e]
theorem Ci {p : κ×V}{r:List (κ×V)}{k : κ}(e:¬ p.1=k):eU (p::r) k=eU r k:=by simp[eU,ai0,e]
theorem xf (k : κ):∀ kvs:List (κ×V),(kvs.any fun kv=>decide (kv.1=k))=(eU kvs k).isSome
 |[] => rfl
 |p::r=>by
  rw[Pf];by_cases e:p.1=k
  ·simp only[Cg e,u4 e,Bool.true_or,Option.isSome_some]
  ·rw[Ci e,tw e,Bool.false_or];exact xf k r
theorem Lr (kvs:List (κ×V))(k : κ)(v:V):(putK kvs k v).length<=kvs.length+1:=by
 unfold putK;split
 ·rw[aa];omega
 ·rw[qr,AN,ajj];omega
theorem Yu {kvs:List (κ×V)}{k : κ}(v:V)(h:eU kvs k=none):putK kvs k v=kvs++[(k,v)]:=by
 unfold putK;rw[xf,h];exact mf (by decide)
theorem jc.BI {o:Option V}{u:Option Value}(r:jc o u):o.isSome=u.isSome:=by
 cases o with
 |none=>cases u with
  |none=>rfl
  |some _=>exact(show False from r).elim
 |some _=>cases u with
  |none=>exact(show False from r).elim
  |some _=>rfl
theorem jc.getD {o:Option V}{u:Option Value}{d:V}{d':Value}(r:jc o u)(rd:RelV d d'):RelV (o.getD d) (u.getD d'):=by
 cases o with
 |none=>cases u with
  |none=>exact rd
  |some _=>exact(show False from r).elim
 |some _=>cases u with
  |none=>exact(show False from r).elim
  |some _=>exact r
theorem KV.val {kvs:List (κ×V)}{vs:List (κ×Value)}(r:KV kvs vs)(k : κ):jc (eU kvs k) (valueAt vs k):=by
 unfold KV at r
 induction r with
 |nil=>exact True.intro
 | @cons p q ps qs h t ih =>
  obtain⟨h1,h2⟩:=h;by_cases e:p.1=k
  ·have e':q.1=k:=h1.symm.trans e;have b:valueAt (q::qs) k=some q.2:=by simp[valueAt,ai0,e']
   rw[Cg e,b];exact h2
  ·have e':¬ q.1=k:=fun z=>e (h1.trans z)
   have b:valueAt (q::qs) k=valueAt qs k:=by simp[valueAt,ai0,e']
   rw[Ci e,b];exact ih
theorem KV.any {kvs:List (κ×V)}{vs:List (κ×Value)}(r:KV kvs vs)(k : κ):(kvs.any fun kv=>decide (kv.1=k))=vs.any fun kv=>decide (kv.1=k):=by
 unfold KV at r
 induction r with
 |nil=>rfl
 |cons h t ih=>rw[Pf,Pf,ih,h.1]
theorem KV.repl {kvs:List (κ×V)}{vs:List (κ×Value)}(r:KV kvs vs)(k : κ){y:V}{u:Value}(ry:RelV y u) :
  KV (kvs.map fun kv=>if kv.1=k then (kv.1,y)else kv) (vs.map fun kv=>if kv.1=k then (kv.1,u)else kv):=by
 unfold KV at r ⊢
 induction r with
 |nil=>exact .nil
 | @cons p q ps qs h t ih =>
  rw[i8,i8];refine .cons ?_ ih;obtain⟨h1,h2⟩:=h;by_cases e:p.1=k
  ·rw[lp e,lp (h1.symm.trans e)];exact⟨h1,ry⟩
  ·rw[mf e,mf (fun z=>e (h1.trans z))];exact⟨h1,h2⟩
theorem KV.put {kvs:List (κ×V)}{vs:List (κ×Value)}(r:KV kvs vs)(k : κ){y:V}{u:Value}(ry:RelV y u):KV (putK kvs k y) (stored vs k u):=by
 unfold putK stored;rw[r.any k];by_cases e:(vs.any fun kv=>decide (kv.1=k))=true
 ·rw[lp e,lp e];exact r.repl k ry
 ·rw[mf e,mf e];exact Paired.snoc r ⟨rfl,ry⟩
theorem KV.length {kvs:List (κ×V)}{vs:List (κ×Value)}(r:KV kvs vs):kvs.length=vs.length:=Paired.length r
end
theorem uP {P:Program}{w:World}{k:Key}{u:Value}(r:RelV (kV k) u):(fJ P w).is k u=true:=by
 cases k with
 |inl i=>obtain⟨t,e⟩:=(show ∃ t,u=Value.int i t from r);subst e;exact Wq P w i t
 |inr x=>obtain⟨t,e⟩:=(show ∃ t,u=Value.str x t from r);subst e;exact Wr P w x t
theorem Ma {P:Program}{w:World}:∀ {ks:List Key} {us:List Value},Vals (ks.map kV) us->ItemsAre (fJ P w) ks us
 |[],_,r=>by rw[ai5]at r;cases r;exact .nil
 |k::ks,_,r=>by
  rw[i8]at r;cases r with
  |cons h t=>exact .cons (uP h) (Ma t)
abbrev KT (H:Hp):List (List Key×V)->List (List Key×Addr×Value)->Prop:=Paired fun p q=>p.1=q.1/\H q.2.1=some (.tup (p.1.map kV))/\RelV p.2 q.2.2
theorem KT.val {H:Hp}{kvs:List (List Key×V)}{xs:List (List Key×Addr×Value)}(r:KT H kvs xs)(k:List Key):jc (eU kvs k) ((atKey xs k).map (·.2)):=by
 induction r with
 |nil=>exact True.intro
 | @cons p q ps qs h t ih =>
  obtain⟨h1,_,h2⟩:=h;by_cases e:p.1=k
  ·have e':q.1=k:=h1.symm.trans e;have b:atKey (q::qs) k=some q.2:=by simp[atKey,ai0,e']
   rw[Cg e,b];exact h2
  ·have e':¬ q.1=k:=fun z=>e (h1.trans z)
   have b:atKey (q::qs) k=atKey qs k:=by simp[atKey,ai0,e']
   rw[Ci e,b];exact ih
theorem KT.repl {H:Hp}{kvs:List (List Key×V)}{xs:List (List Key×Addr×Value)}(r:KT H kvs xs)(k:List Key){y:V}{u:Value}(ry:RelV y u) :
  KT H (kvs.map fun kv=>if kv.1=k then (kv.1,y)else kv) (xs.map (putAt k u)):=by
 induction r with
 |nil=>exact .nil
 | @cons p q ps qs h t ih =>
  rw[i8,i8];refine .cons ?_ ih;obtain⟨h1,h2,h3⟩:=h;unfold putAt;by_cases e:p.1=k
  ·rw[lp e,lp (h1.symm.trans e)];exact⟨h1,h2,ry⟩
  ·rw[mf e,mf (fun z=>e (h1.trans z))];exact⟨h1,h2,h3⟩
theorem KT.put {H:Hp}{kvs:List (List Key×V)}{xs:List (List Key×Addr×Value)}(r:KT H kvs xs)(k:List Key){b:Addr}{y:V}{u:Value}(hb:H b=some (.tup (k.map kV)))(ry:RelV y u) :
  KT H (putK kvs k y) (storedH xs k b u):=by
 have e:(kvs.any fun kv=>decide (kv.1=k))=(atKey xs k).isSome:=by
  rw[xf,(r.val k).BI,Option.isSome_map]
 unfold putK storedH;rw[e];by_cases q:(atKey xs k).isSome=true
 ·rw[lp q,lp q];exact r.repl k ry
 ·rw[mf q,mf q];exact Paired.snoc r ⟨rfl,hb,ry⟩
theorem KT.keeps {H H':Hp}{kvs:List (List Key×V)}{xs:List (List Key×Addr×Value)}(r:KT H kvs xs)(ht:∀ b ys,H b=some (.tup ys)->H' b=some (.tup ys)):KT H' kvs xs :=
 Paired.EK r fun _ _ z=>⟨z.1,ht _ _ z.2.1,z.2.2⟩
section
variable {P:Program}{w:World}{H:Hp}{h:Heap}{a:Addr}
theorem Qf {u:HO}(ok:cA P w H h)(e:Rd H a u):cv P w H h a u:=e.ok ok
theorem sM {kvs:List (Key×V)}(ok:cA P w H h)(e:Rd H a (.dK kvs)):kvs.length<=sizeLine/\(a==sysModules)=false/\∃ vs,KV kvs vs/\h.DictOf (fJ P w) a vs :=
 show cv P w H h a (.dK kvs)from Qf ok e
theorem ab5 {kvs:List (Key×V)}(ok:cA P w H h)(e:H a=some (.dK kvs)):kvs.length<=sizeLine/\(a==sysModules)=false/\∃ vs,KV kvs vs/\h.DictOf (fJ P w) a vs:=sM ok (.inl e)
theorem m9 {ks:List Key}(ok:cA P w H h)(e:H a=some (.tup (ks.map kV))):(tupleKind (fJ P w)).is h ks a:=by
 obtain⟨_,its,r,o,h1,h2,n,h3⟩:=(show cv P w H h a (.tup (ks.map kV))from ok a _ e)
 exact⟨o,its.toArray,n,h1,h2,h3,by simpa using Ma r⟩
theorem sN {kvs:List (List Key×V)}(ok:cA P w H h)(e:Rd H a (.dT kvs)):kvs.length<=sizeLine/\(a==sysModules)=false /\
  ∃ xs,KT H kvs xs/\h.DictOfH (tupleKind (fJ P w)) a xs:=by
 obtain⟨z,y,xs,r,o,es,ep,h1,h2,h3,h4,h5⟩:=(show cv P w H h a (.dT kvs)from Qf ok e)
 refine⟨z,y,xs,r,o,es,ep,h1,h2,h3,h4,fun x hx=>?_,h5⟩;have all:∀ {l:List (List Key×V)} {m:List (List Key×Addr×Value)},KT H l m->∀ x ∈ m,(tupleKind (fJ P w)).is h x.1 x.2.1:=by
  intro l m q
  induction q with
  |nil=>intro x hx;exact nomatch hx
  | @cons p q ps qs hq t ih =>
   intro x hx;rcases gr.mp hx with e | hx
   ·subst e;exact m9 ok (by rw[<- hq.1];exact hq.2.1)
   ·exact ih x hx
 exact all r x hx
theorem ab6 {kvs:List (List Key×V)}(ok:cA P w H h)(e:H a=some (.dT kvs)):kvs.length<=sizeLine/\(a==sysModules)=false /\
  ∃ xs,KT H kvs xs/\h.DictOfH (tupleKind (fJ P w)) a xs:=sN ok (.inl e)
end
def ic (H:Hp)(a:Addr)(y:V)(r:Option V):Prop :=
 (∃ kvs k,Rd H a (.dK kvs)/\y=kV k/\r=eU kvs k)\/∃ kvs k b,Rd H a (.dT kvs)/\y=.ref b/\H b=some (.tup (k.map kV))/\r=eU kvs k
def mh (H:Hp)(a:Addr)(y v:V)(H':Hp):Prop :=
 (∃ kvs k,H a=some (.dK kvs)/\y=kV k/\kvs.length<sizeLine/\H'=upd H a (.dK (putK kvs k v))) \/
 ∃ kvs k b,H a=some (.dT kvs)/\y=.ref b/\H b=some (.tup (k.map kV))/\kvs.length<sizeLine/\H'=upd H a (.dT (putK kvs k v))
theorem ic.k {H:Hp}{a:Addr}{kvs:List (Key×V)}{k:Key}(e:H a=some (.dK kvs)):ic H a (kV k) (eU kvs k):=.inl ⟨kvs,k,.inl e,rfl,rfl⟩
theorem ic.t {H:Hp}{a b:Addr}{kvs:List (List Key×V)}{k:List Key}(e:H a=some (.dT kvs))(eb:H b=some (.tup (k.map kV))):ic H a (.ref b) (eU kvs k):=.inr ⟨kvs,k,b,.inl e,rfl,eb,rfl⟩
theorem mh.k {H:Hp}{a:Addr}{kvs:List (Key×V)}{k:Key}{v:V}(e:H a=some (.dK kvs))(hl:kvs.length<sizeLine):mh H a (kV k) v (upd H a (.dK (putK kvs k v))):=.inl ⟨kvs,k,e,rfl,hl,rfl⟩
theorem mh.t {H:Hp}{a b:Addr}{kvs:List (List Key×V)}{k:List Key}{v:V}(e:H a=some (.dT kvs))(eb:H b=some (.tup (k.map kV)))(hl:kvs.length<sizeLine) :
  mh H a (.ref b) v (upd H a (.dT (putK kvs k v))):=.inr ⟨kvs,k,b,e,rfl,eb,hl,rfl⟩
section
variable {X:Cx}{pins:List (Addr×Obj)}{σ:St}{H:Hp}{s:Shared}{a:Addr}{y v:V}{u r:Value}{o:Option V}{A:Around}{E:Value->Shared->Prop}
theorem Inv.big (I:Inv X pins σ H s):sysModules<s.heap.objs.size:=by
 have h:mainGlobals<s.heap.objs.size:=(I.mod.glob.keeps I.bk).lt;exact Nat.lt_trans (by decide) h
theorem XJ {Q:Value->Shared->Prop}(hu:A.units+1<cLine)(I:Inv X pins σ H s)(g:ic H a y (some v))(ry:RelV y u)(h:∀ w' s',Inv X pins σ H s'->RelV v w'->Q w' s') :
  wpAny (model X.prog X.w) A (getItem (.ref a) u) Q E s:=by
 rcases g with⟨kvs,k,e,ey,l⟩ | ⟨kvs,k,b,e,ey,eb,l⟩
 ·subst ey;obtain⟨z,hd,vs,rel,dd⟩:=sM I.aA e;obtain⟨w',hw,iq⟩:=jc.some_of (v:=v) (o:=valueAt vs k) (by rw[l];exact rel.val k);exact wpAny_getItem_of (uP ry) dd.mapOf hw (h w' _ (I.tok _) iq)
 ·subst ey;cases (show u=Value.ref b from ry);obtain⟨z,hd,xs,rel,dd⟩:=sN I.aA e;obtain⟨w',hw,iq⟩:=jc.some_of (v:=v) (o:=(atKey xs k).map (·.2)) (by rw[l];exact rel.val k);obtain⟨p,hp,pX⟩:=ajS.mp hw;refine wpAny_getItem_heap (ajN hu) (m9 I.aA eb) dd hp ?_;rw[pX];exact h w' _ (I.tok _) iq
theorem ZD {Q:Value->Shared->Prop}(hu:A.units+1<cLine)(I:Inv X pins σ H s)(g:ic H a y o)(ry:RelV y u)(h:∀ s',Inv X pins σ H s'->Q (.bool (!o.isSome)) s') :
  wpAny (model X.prog X.w) A (compareOp .NotIn u (.ref a)) Q E s:=by
 rcases g with⟨kvs,k,e,ey,l⟩ | ⟨kvs,k,b,e,ey,eb,l⟩
 ·subst ey;obtain⟨z,hd,vs,rel,dd⟩:=sM I.aA e;refine wpAny_notIn_of (uP ry) hd dd.mapOf ?_;rw[<- (rel.val k).BI,<- l];exact h _ (I.tok _)
 ·subst ey;cases (show u=Value.ref b from ry);obtain⟨z,hd,xs,rel,dd⟩:=sN I.aA e;refine wpAny_notIn_heap (ajN hu) (m9 I.aA eb) hd dd ?_;have q:=(rel.val k).BI;rw[Option.isSome_map]at q;rw[<- q,<- l];exact h _ (I.tok _)
theorem NZ {h':Heap}{t':Nat}{ob:HO}(I:Inv X pins σ H s)(mu:vz (H a))(hs:Heap.SameBut a s.heap h')(he:∃ q,h'.get? a=some q)(new:cv X.prog X.w (upd H a ob) h' a ob) :
  Inv X pins σ (upd H a ob) { s with heap:=h',toks:=t' } :=
 I.write (x:=a) (e:=a) mu (.inl rfl) (fun b q hb z=>(hs.2 b hb).trans z) he new
theorem aa0 {P:Program}{w:World}{H':Hp}{h':Heap}{kvs:List (Key×V)}{vs:List (Key×Value)}(z:kvs.length<=sizeLine)(hd:(a==sysModules)=false)(rel:KV kvs vs)(dd:h'.DictOf (fJ P w) a vs) :
  cv P w H' h' a (.dK kvs):=⟨z,hd,vs,rel,dd⟩
theorem XM {H':Hp}{Q:Unit->Shared->Prop}(hu:A.units+1<cLine)(I:Inv X pins σ H s)(g:mh H a y v H')(ry:RelV y u)(rv:RelV v r)(h:∀ s',Inv X pins σ H' s'->Q () s') :
  wpAny (model X.prog X.w) A (setItem (.ref a) u r) Q E s:=by
 rcases g with⟨kvs,k,e,ey,l,eH⟩ | ⟨kvs,k,b,e,ey,eb,l,eH⟩
 ·subst ey eH;obtain⟨z,hd,vs,rel,dd⟩:=ab5 I.aA e;have hz:vs.length<=sizeLine:=by rw[<- rel.length];exact z
  have hl:(putK kvs k v).length<=sizeLine:=by have:=Lr kvs k v;omega
  refine wpAny_setItem_pairs (hsz:=hz) (uP ry) dd fun h' zG hs=>h _ ?_
  have he:∃ q,h'.get? a=some q:=let ⟨q,_,_,hq,_⟩:=zG;⟨q,hq⟩;exact NZ I (by rw[e];exact True.intro) hs he (aa0 hl hd (rel.put k rv) zG)
 ·subst ey eH;cases (show u=Value.ref b from ry);obtain⟨z,hd,xs,rel,dd⟩:=ab6 I.aA e;have hz:xs.length<=sizeLine:=by rw[<- Paired.length rel];exact z
  have hl:(putK kvs k v).length<=sizeLine:=by have:=Lr kvs k v;omega
  refine wpAny_setItem_heap (hsz:=hz) (ajN hu) (m9 I.aA eb) dd fun h' zG hs=>h _ ?_
  obtain⟨q,es,ep,hq,h2,h3,h4,_,h5⟩:=zG;refine NZ I (by rw[e];exact True.intro) hs ⟨q,hq⟩ ⟨hl,hd,_,(rel.put k eb rv).keeps fun c ys ec=>?_,q,es,ep,hq,h2,h3,h4,h5⟩;rw[aQ (abQ ec e (fun z=>nomatch z))];exact ec
end
def QW (i:Expr):Prop:=∀ ov iv,subscripted i false ov iv=operate [ov,iv] (getItem ov iv)
theorem ZE {prog:Program}{w:World}{A:Around}{E:Value->Shared->Prop}{s:Shared}{env:Env}{value slice:Expr}{pos:Pos}{T id:String}{Q:Value->Shared->Prop}(hl:typeLookup (.type T) "__getitem__" = pure (some (.builtin id)))(hs:QW slice)(h:wpAny (model prog w) A (eval value env) (fun o bK=>wpAny (model prog w) A (eval slice env) (fun i lW=>lW.TypeIs o T/\wpAny (model prog w) A (getItem o i) Q E lW) E bK) E s) :
  wpAny (model prog w) A (eval (.Subscript value slice pos) env) Q E s:=by
 refine Subscript_ (ajC h (fun o bK acM=>ajC acM (fun i lW Ff=>?_) fun _ _ x=>x) fun _ _ x=>x);obtain⟨hT,Ff⟩:=Ff;unfold subscriptTail;refine ff ?_;rw[getitemInPython_of_ne hT.not_modules];refine ff (wpAny_specialOf hT hl ?_);have fin:wpAny (model prog w) A (subscripted slice false o i) (fun r QX=>wpAny (model prog w) A (letTemporaryGo value o r >>= fun _=>pure r) Q E QX) E lW:=by
  rw[hs o i];exact wpAny_operating (ajC Ff (fun r QX acN=>ff (wpAny_letTemporaryGo (xp acN))) fun _ _ x=>x)
 first
  |exact xp (ff fin)
  |exact ff (xp (ff fin))
  |exact ff fin
theorem Wu {X:Cx}{pins:List (Addr×Obj)}{σ:St}{H:Hp}{s:Shared}{a:Addr}{y:V}{o:Option V}(I:Inv X pins σ H s)(g:ic H a y o):s.TypeIs (.ref a) "dict" := by
 rcases g with⟨kvs,k,e,_,_⟩ | ⟨kvs,k,b,e,_,_,_⟩
 ·obtain⟨_,_,vs,_,dd⟩:=sM I.aA e;exact dd.typeIs
 ·obtain⟨_,_,xs,_,dd⟩:=sN I.aA e;exact dd.typeIs
def Ef (td ty:TE):TE:=fun σ H Q=>td σ H fun x H1=>ty σ H1 fun y H2=>∃ a v,x=.ref a/\ic H2 a y (some v)/\Q v H2
def ZF (ty td:TE):TE:=fun σ H Q=>ty σ H fun y H1=>td σ H1 fun x H2=>∃ a o,x=.ref a/\ic H2 a y o/\Q (.bl (!o.isSome)) H2
def Eg (td ty tv:TE):TS:=fun D σ H=>tv σ H fun v H1=>td σ H1 fun x H2=>ty σ H2 fun y H3=>∃ a H4,x=.ref a/\mh H3 a y v H4/\D.nx σ H4
section
variable {X:Cx}{o i e value:Expr}{pos pos' aiS:Pos}{td ty tv:TE}
theorem ZG (hu:X.A.units+1<cLine)(ho:PE X o td)(hi:PE X i ty)(hs:QW i):PE X (.Subscript o i pos) (Ef td ty):=by
 intro pins s σ H Q I h;refine ZE PySem.F.slot_dict_getitem.lookup hs (aD (ho pins s σ H _ I h) fun u s1 ⟨x,H1,I1,rx,q1⟩=>aD (hi pins s1 σ H1 _ I1 q1) fun iv s2 ⟨y,H2,I2,ry,a,v,ex,g,q2⟩=>?_);subst ex;obtain rfl:u=Value.ref a:=rx;exact⟨Wu I2 g,XJ hu I2 g ry fun w' s3 I3 iq=>⟨v,H2,I3,iq,q2⟩⟩
theorem Mb (hu:X.A.units+1<cLine)(hi:PE X i ty)(ho:PE X o td):PC X .NotIn i o (ZF ty td):=by
 intro pins s σ H Q I h;refine aD (hi pins s σ H _ I h) fun iv s1 ⟨y,H1,I1,ry,q1⟩=>aD (ho pins s1 σ H1 _ I1 q1) fun u s2 ⟨x,H2,I2,rx,a,ov,ex,g,q2⟩=>?_
 subst ex;obtain rfl:u=Value.ref a:=rx;exact ZD hu I2 g ry fun s3 I3=>⟨.bl (!ov.isSome),H2,I3,rfl,q2⟩
theorem CN (hu:X.A.units+1<cLine)(ho:PE X o td)(hi:PE X i ty)(hv:PE X value tv)(hs:swapsWith value (some (.Subscript o i pos')) pos.line X.env=pure false) :
  PS X (.Assign [.Subscript o i pos'] value pos) (Eg td ty tv):=by
 intro pins s σ H D I h;refine wpAny_Assign_Subscript (aD (hv pins s σ H _ I h) fun r s1 ⟨v,H1,I1,rv,q1⟩=>aD (ho pins s1 σ H1 _ I1 q1) fun u s2 ⟨x,H2,I2,rx,q2⟩=>aD (hi pins s2 σ H2 _ I2 q2) fun iv s3 ⟨y,H3,I3,ry,a,H4,ex,g,q3⟩=>?_) hs;subst ex;obtain rfl:u=Value.ref a:=rx;exact XM hu I3 g ry rv fun s4 I4=>⟨σ,H4,I4,q3⟩
end
theorem Yv {P:Program}{w:World}{H:Hp}(h:Heap)(hb:sysModules<h.objs.size):cv P w H (h.push { cls:=.type "dict",data:=.dict #[] }) h.objs.size (.dK []) :=
 ⟨DO _,Pc.mpr (Ne.symm (Co hb)),[],.nil,Heap.DictOf.new h⟩
theorem Yw {P:Program}{w:World}{H:Hp}(h:Heap)(hb:sysModules<h.objs.size):cv P w H (h.push { cls:=.type "dict",data:=.dict #[] }) h.objs.size (.dT []) :=
 ⟨DO _,Pc.mpr (Ne.symm (Co hb)),[],.nil,_,#[],0,EO _ rfl,⟨rfl,rfl,rfl⟩,rfl,rfl,List.nodup_nil⟩
def aa1:TE:=fun _ H Q=>∀ p,H p=none->Q (.ref p) (upd H p (.dK []))
def aa2:TE:=fun _ H Q=>∀ p,H p=none->Q (.ref p) (upd H p (.dT []))
section
variable {X:Cx}{pos:Pos}
theorem MO:PE X (.Dict [] [] pos) aa1:=fun pins s σ H Q I h =>
 wpAny_Dict_empty ⟨.ref s.heap.objs.size,_,I.laid (a:=s.heap.objs.size) (o:=.dK []) (t':=s.toks) (fun _ _ q=>Cc _ q) (br _) (Yv s.heap I.big),rfl,h _ (I.aA.fresh (br _))⟩
theorem Yx:PE X (.Dict [] [] pos) aa2:=fun pins s σ H Q I h =>
 wpAny_Dict_empty ⟨.ref s.heap.objs.size,_,I.laid (a:=s.heap.objs.size) (o:=.dT []) (t':=s.toks) (fun _ _ q=>Cc _ q) (br _) (Yw s.heap I.big),rfl,h _ (I.aA.fresh (br _))⟩
end
structure M2 (X:Cx) (o:Expr) (m:Str) (apos:Pos) (e f:Expr) (fQ:Pos):Prop where
 base:attributeBase o m X.env (eval o X.env)=eval o X.env
 few:((backTo fQ (starEach [e,f] X.env)).all (fun x=>!x.1)&&(backToKw fQ (keywordEach [] X.env)).all (fun x=>x.1.isSome)
  && decide (([e,f]:List Expr).length+([]:List Keyword).length+(if([]:List Keyword).isEmpty then 0 else 1)<30))=true
 line:(apos.endLine==fQ.line)=true
 trees:backTo fQ (starEach [e,f] X.env)=[(false,eval e X.env),(false,eval f X.env)]
def SY (H:Hp)(a:Addr):Prop:=(∃ kvs,Rd H a (.dK kvs))\/∃ kvs,Rd H a (.dT kvs)
theorem aa3 {X:Cx}{pins:List (Addr×Obj)}{σ:St}{H:Hp}{s:Shared}{a:Addr}(I:Inv X pins σ H s)(d:SY H a) :
  s.TypeIs (.ref a) "dict" /\ (∀ b,Value.ref a=.ref b->∃ ob,s.heap.get? b=some ob/\ob.dict=none)/\(a==sysModules)=false:=by
 rcases d with⟨kvs,e⟩ | ⟨kvs,e⟩
 ·obtain⟨_,hd,vs,_,dd⟩:=sM I.aA e;refine⟨dd.typeIs,fun b q=>?_,hd⟩;cases q;obtain⟨ob,_,_,h1,h2,_⟩:=dd;exact⟨ob,h1,h2.2.1⟩
 ·obtain⟨_,hd,xs,_,dd⟩:=sN I.aA e;refine⟨dd.typeIs,fun b q=>?_,hd⟩;cases q;obtain⟨ob,_,_,h1,h2,_⟩:=dd;exact⟨ob,h1,h2.2.1⟩
section
variable {X:Cx}{pins:List (Addr×Obj)}{σ:St}{H:Hp}{s:Shared}{a:Addr}{y d:V}{u r:Value}{o:Option V}{A:Around}{E:Value->Shared->Prop}
theorem aa4 {Q:Value->Shared->Prop}(hu:A.units+1<cLine)(I:Inv X pins σ H s)(g:ic H a y o)(ry:RelV y u)(rd:RelV d r)(h:∀ w' s',Inv X pins σ H s'->RelV (o.getD d) w'->Q w' s') :
  wpAny (model X.prog X.w) A (call (.builtin "dict.get") [.ref a,u,r]) Q E s:=by
 rcases g with⟨kvs,k,e,ey,l⟩ | ⟨kvs,k,b,e,ey,eb,l⟩
 ·subst ey;obtain⟨z,hd,vs,rel,dd⟩:=sM I.aA e;refine call_meetsIn aj4 dd.typeIs PySem.F.entry_dict_get (PySem.F.args_dict_get_3 _ _ _) (meets_dict_get_default (fJ X.prog X.w) a (uP ry) hd r) ⟨_,dd.mapOf,h _ _ (I.tok _) ?_⟩;rw[l];exact(rel.val k).getD rd
 ·subst ey;cases (show u=Value.ref b from ry);obtain⟨z,hd,xs,rel,dd⟩:=sN I.aA e;refine call_meetsIn aj4 dd.typeIs PySem.F.entry_dict_get (PySem.F.args_dict_get_3 _ _ _) (meetsH_dict_get_default (tupleKind (fJ X.prog X.w)) a b hd r) ⟨ajN hu,k,xs,m9 I.aA eb,dd,h _ _ (I.tok _) ?_⟩;rw[l];exact(rel.val k).getD rd
end
def DA (td ty tx:TE):TE:=fun σ H Q=>td σ H fun x H1=>∃ a,x=.ref a/\SY H1 a/\ty σ H1 fun y H2=>tx σ H2 fun z H3=>∃ o,ic H3 a y o/\Q (o.getD z) H3
section
variable {X:Cx}{o e f:Expr}{apos fQ:Pos}{td ty tx:TE}
theorem Yy (hu:X.A.units+1<cLine)(ho:PE X o td)(he:PE X e ty)(hf:PE X f tx)(m:M2 X o "get" apos e f fQ):PE X (.Call (.Attribute o "get" apos) [e,f] [] fQ) (DA td ty tx):=by
 intro pins s σ H Q I h;refine wpAny_Call_method m.base m.few m.line PySem.F.plainAttrs_dict aj4 PySem.F.type_dict_get (aD (ho pins s σ H _ I h) fun u s1 ⟨x,H1,I1,rx,a,ex,d,q1⟩=>?_);subst ex;obtain rfl:u=Value.ref a:=rx;obtain⟨t1,t2,_⟩:=aa3 I1 d;refine⟨t1,t2,?_⟩;rw[m.trees];refine Calls.callWith_builtin rfl (Calls.evalArgs_plain (akv (aD (he pins s1 σ H1 _ I1 q1) fun iv s2 ⟨y,H2,I2,ry,q2⟩ =>
  akv (aD (hf pins s2 σ H2 _ I2 q2) fun fv s3 ⟨z,H3,I3,rz,ov,g,q3⟩=>Calls.spliced_nil ?_))))
 exact aa4 hu I3 g ry rz fun w' s4 I4 iq=>⟨_,H3,I4,iq,q3⟩
end
section
variable {ι:Type}{F:bc ι}{e a b c:Expr}{ρ:En}{t ta tb':Tr}{pos:Pos}
theorem Mf {v:V}{vs:List V}{o:Expr}{to:Tr}(ho:Ev F o ρ to)(eo:er to=.lst (vs.map .fl))(ha:Ev F e ρ (.fz (.fl v))){apos:Pos}(hC:∀ i,attributeBase o "count" (F.cx i).env (eval o (F.cx i).env)=eval o (F.cx i).env:=by intro _;rfl)(hJ:∀ i,((backTo pos (starEach [e] (F.cx i).env)).all (fun x=>!x.1)&&(backToKw pos (keywordEach [] (F.cx i).env)).all (fun x=>x.1.isSome)&&decide (([e]:List Expr).length+([]:List Keyword).length+(if([]:List Keyword).isEmpty then 0 else 1)<30))=true:=by intro _;rfl)(hline:(apos.endLine==pos.line)=true:=by rfl)(hs:∀ i,starEach [e] (F.cx i).env=[(false,eval e (F.cx i).env)]:=by intro _;rfl):Ev F (.Call (.Attribute o "count" apos) [e] [] pos) ρ (ti (vs.countP fun z=>dw z v:Nat)) :=
 Ed (r:=yf F.K) ajJ ajK (fun i=>F.hK i ▸ B9) ho eo (aj ha aw hs) (fun G H x ki Q s hx hv k=>by
  rw[eo]at hx;obtain⟨l,us,rfl,h1,h2⟩:=hx;obtain⟨rfl,hf⟩:=Cd h2;obtain⟨y,rfl,hy⟩:=jh hv;refine⟨l,_,y,rfl,rfl,s.seq h1,by rw[hy.1];exact hy.2,hf,?_⟩;rw[hy.1];exact k.sc s rfl) hC hJ hline hs (fun _=>rfl)
theorem aa5 {u v:V}(ha:Ev F a ρ (.fz (.fl u)))(hb:Ev F b ρ (.fz (.fl v)))(hs:yM u v=true):Et F (.Compare a [.Eq] [b] pos) ρ (decide (u=v)) :=
 jU (fun _=>D6) ha hb (fun G H x y Q s hx hy k=>by rw[aO hx,aO hy];exact⟨hs,k⟩) (iG _)
end
theorem Yz {K:Frag}{l:Addr}{xs:List V}{g:TG}{tb:TS}{D:Ends}{σ:St}{H:Hp}(Pv:Nat->St->Hp->Prop)(h0:Pv 0 σ H)(hl:∀ i σ H,i<=xs.length->Pv i σ H->aL K H l xs)(hs:∀ i x σ H T,xs[i]?=some x->Pv i σ H->H T=none->g (.ref T) σ (upd H T (.tup [.int (i:Nat),x])) fun bE H2=>tb { D with nx:=Pv (i+1),ct:=Pv (i+1),bk:=D.nx } bE H2)(hd:∀ σ H,Pv xs.length σ H->D.nx σ H) :
  ∃ W:Nat->Nat->St->Hp->Prop,(∃ m,W 0 m σ H)/\∀ i m σ H,W i m σ H ->
   ((vN K l xs).stop i H/\D.nx σ H)\/((vN K l xs).go i H/\∃ N:St->Hp->Prop,(∀ aB H',N aB H'->∃ m',m'<m/\W (i+1) m' aB H')/\∀ x H',(vN K l xs).nM i H x H'->g x σ H' fun bE H2=>tb { D with nx:=N,ct:=N,bk:=D.nx } bE H2):=by
 refine⟨fun i m σ H=>m=xs.length-i/\i<=xs.length/\Pv i σ H,⟨xs.length,by simp,DO _,h0⟩,?_⟩;rintro i m σ H ⟨rfl,hi,p⟩;have q:=hl i σ H hi p;by_cases aT:i<xs.length
 ·refine .inr ⟨⟨q,aT⟩,Pv (i+1),fun aB H' p'=>⟨xs.length-(i+1),by omega,rfl,aT,p'⟩,fun x H' y=>?_⟩;obtain⟨T,v,hT,hv,rfl,rfl⟩:=y;exact hs i v σ H T hv p hT
 ·have e:i=xs.length:=by omega
  subst e;exact .inl ⟨⟨q,rfl⟩,hd σ H p⟩
section
variable {X:Cx}
def sK (s:LI):List (Key×V):=s.map fun x=>(.inl x,.bl true)
theorem N0 {prog:Program}{w:World}:∀ {s:LI} {vs:List (Key×Value)},KV (sK s) vs->vs.length=s.length/\∀ (i:Nat) (k:Key) (x:Value),vs[i]?=some (k,x)->∃ n,s[i]?=some n/\k=.inl n
 |[],vs,h=>by
  cases h
  exact⟨rfl,fun i k x hx=>by cases i<;>cases hx⟩
 |n::s,vs,h=>by
  cases h with
  |cons r t =>
   obtain⟨h1,h2⟩:=N0 (prog:=prog) (w:=w) t;refine⟨by rw[AN,h1];rfl,fun i k x hx=>?_⟩;cases i with
   |zero =>
    have e:_=(k,x):=xw hx;refine⟨n,rfl,?_⟩;have:=r.1;rw[e]at this;exact this.symm
   |succ i=>exact h2 i k x hx
theorem LK:∀ {vs:List Value} {ns:LI},vs.length=ns.length->(∀ (j:Nat) (v:Value),vs[j]?=some v->∃ n t,ns[j]?=some n/\v=.int n t)->IntsAre vs ns
 |[],[],_,_=>.nil
 |[],_::_,h,_=>by cases h
 |_::_,[],h,_=>by cases h
 |v::vs,n::ns,h,hv=>by
  obtain⟨m,t,e1,e2⟩:=hv 0 v rfl;cases e1;rw[e2];exact .cons _ _ (LK (by simpa using h) fun j u hu=>hv (j+1) u hu)
theorem Li (hc:X.calm=true):eQ X (.builtin "sorted") (fun xs H Q=>∃ (p:Addr) (ks:LI),xs=[.ref p]/\H p=some (.dK (sK ks))/\ks.length<64/\∀ (l:Addr) (ms:LI),H l=none->ms.Perm ks->ms.Pairwise (· <= ·)->Q (.ref l) (upd H l (.lst (ms.map V.int)))):=by
 intro pins s σ H xs us Q I r h;obtain⟨p,ks,rfl,hp,hz,q⟩:=h;obtain⟨u,rfl,rx⟩:=vals1 r;cases rx;obtain⟨_,hS,vs,rKV,hD⟩:(sK ks).length<=sizeLine/\(p==sysModules)=false/\∃ vs,KV (sK ks) vs/\s.heap.DictOf (fJ X.prog X.w) p vs:=I.aA p _ hp;obtain⟨hl,hkv⟩:=N0 (prog:=X.prog) (w:=X.w) rKV;obtain⟨ep,gV⟩:=hD.dictAt;have big : 1000<sizeLine:=by decide
 refine Calls.call_function_entry kind_sorted plain_sorted entry_sorted (args_sorted1 _) ?_;unfold Builtin.«sorted»;refine ff (m:=checkCount "sorted" 1 1 _) (xp ?_);refine ff (PySem.W.kdu_collect (A:=X.A.in1) (PySem.W.kdl_dict (knd:=fJ X.prog X.w) (kvs:=vs) (ep:=ep) hS) (I.ok.hd hc) gV (by rw[hl];omega) fun h' tk acc hk fe=>?_);have ha:acc.toList.length=ks.length:=by rw[WI,fe.1,hl]
 have hI:IntsAre acc.toList ks:=LK ha fun j v hv=>by
  obtain⟨k,x,hx,S0⟩:=fe.2 j v (by rw[<- PM];exact hv);obtain⟨n,hn,rfl⟩:=hkv j k x hx;rw[WX]at S0;rcases kE S0 with⟨i,t,e1,e2⟩ | ⟨y,t,e1,e2⟩
  ·cases e1
   exact⟨n,t,hn,e2⟩
  ·cases e1
 refine ff (wpAny_newList ?_ (by rw[ha];omega));have mD:(h'.push (seqObj "list" acc.toList.toArray 0)).get? h'.objs.size=some (seqObj "list" acc.toList.toArray 0):=EO _ rfl;refine ff (ajm (ajy slot_list_sort ⟨_,mD,rfl⟩ entry_list_sort (list_sort_tree (s:={ s with heap:=h'.push (seqObj "list" acc.toList.toArray 0),toks:=tk }) mD hI (by rw[ha];exact hz) fun out S1 a1 a2 a3=>⟨_,rfl,?_⟩) (args_list_sort _)));refine xp ⟨_,rfl,?_⟩;obtain⟨e,he⟩:=sortedHeap_at (out:=out) mD;have I1:Inv X pins σ H { s with heap:=h',toks:=tk }:=I.kept (t':=tk) hk;refine⟨.ref h'.objs.size,_,I1.laid (t':=tk) (o:=.lst (S1.map V.int)) (fun b o eb=>?_) (br _) ?_,rfl,q _ S1 (I1.aA.fresh (br _)) a2 a3⟩
 ·have lt:b<h'.objs.size:=xy eb;rw[sortedHeap_old (Co lt) (by rw[size_push'];exact aiY lt),ai1 _ _ _ (Co lt)];exact eb
 ·exact⟨by rw[aa,a2.length_eq];omega,out.toList,e,wL a1,by rw[aab];exact he⟩
end
theorem aE.get {K:Frag}{G H:Hp}:∀ {ts:List Tr} {vs:List V} {fp:List Addr} {n:Nat} {t:Tr},aE K G H ts vs fp->ts[n]?=some t->∃ v fq,vs[n]?=some v/\Ow K G H t v fq/\(∀ a ∈ fq,a ∈ fp)/\(fp.Nodup->fq.Nodup)
 |[],_,_,n,_,_,h=>by cases n<;>cases h
 |t0::ts,vs,fp,0,t,⟨v,r,f1,f2,h1,h2,h3,h4⟩,h=>by
  cases h
  subst h1 h2;exact⟨v,f1,rfl,h3,fun a ha=>nv _ ha,fun nd=>(r8.mp nd).1⟩
 |t0::ts,vs,fp,n+1,t,⟨v,r,f1,f2,h1,h2,h3,h4⟩,h=>by
  subst h1 h2;obtain⟨u,fq,g1,g2,g3,g4⟩:=aE.get (n:=n) h4 h;exact⟨u,fq,g1,g2,fun a ha=>ij _ (g3 a ha),fun nd=>g4 (r8.mp nd).2.1⟩
theorem aa6 {ι:Type}{F:bc ι}{a b:Expr}{ρ:En}{pos:Pos}{ts:List Tr}{n:Nat}{t:Tr}(ha:Ev F a ρ (.tp ts))(hb:Ev F b ρ (ti (n:Nat)))(hk:ts[n]?=some t)(hs:xB b:=by exact fun _ _=>rfl):Ev F (.Subscript a b pos) ρ t:=by
 obtain⟨τ,p,q⟩:=ha;obtain⟨bY,p',q'⟩:=hb.use;refine⟨iu (yO F.K) τ bY,fun i=>oR (NK (F.hK i)) (p i) (p' i) hs,fun σ G H Q s rr k=>?_⟩;refine q σ G H _ s rr fun x G1 H1 f1 s1 o1 w1=>q' σ G1 H1 _ s1.s (rr.mono s1.g) fun y G2 H2 s2 hy=>?_
 obtain⟨l,vs,fq,rfl,hl,ol,rfl⟩:=o1;obtain⟨v,f3,g1,g2,g3,g4⟩:=ol.get hk;have d2:=(BB.mp w1.d).2;have th:=g2.there;refine⟨l,vs,_,v,rfl,aO hy,cW.of (s2.h _ _ hl),iV g1,k v G2 H2 f3 (s1.trans s2) (g2.mono s2.g s2.h) ⟨fun a ha=>w1.n a (.tail _ (g3 a ha)),fun a ha=>?_,g4 d2⟩⟩;cases z:G2 a with
 |none=>rfl
 |some o =>
  obtain⟨u,hu⟩:=th a ha;have:=s2.n a (w1.g a (.tail _ (g3 a ha))) (by rw[z];exact fun y=>nomatch y);rw[hu]at this;cases this
theorem cK.to {ι:Type}{F:bc ι}{e:Expr}{ρ:En}{p q:Bool}(h:cK F e ρ p)(z:p=q):cK F e ρ q:=z ▸ h
theorem bw.to {ι:Type}{F:bc ι}{cB:List Stmt}{ρ:En}{o o':Out}(h:bw F cB ρ o)(z:o=o'):bw F cB ρ o':=z ▸ h
theorem XN {ι:Type}{F:bc ι}{e:Expr}{ρ:En}{t:Tr}{pos:Pos}(j ji jn:Nat){x xi xn:Str}{ts us:List Tr}{n1 n:Int}{i m:Nat}{p1 p2 p3 p4 p5:Pos}(h : ρ[j]?=some (some (.ow ts)))(S2 : ρ[ji]?=some (some (ti n1)))(S3 : ρ[jn]?=some (some (ti n)))(hmi:dv ts.length n1=some i)(hi:ts[i]?=some (.ow us))(hm:dv us.length n=some m)(he:bx F e ρ t)(hps:∀ i',PG (F.cx i') (.Subscript (.Subscript (.Name x p1) (.Name xi p4) p3) (.Name xn p5) p2) (nD (iu (uX F.K) (bU j) (bU ji)) (bU jn) nu))(hs:∀ i',swapsWithSole [.Subscript (.Subscript (.Name x p1) (.Name xi p4) p3) (.Name xn p5) p2] e pos.line (F.cx i').env=pure false:=by intro _;rfl)(hw:∀ i',swappedStores [.Subscript (.Subscript (.Name x p1) (.Name xi p4) p3) (.Name xn p5) p2] e (F.cx i').env=pure none:=by intro _;rfl)(h1:∀ i',(assignEach [.Subscript (.Subscript (.Name x p1) (.Name xi p4) p3) (.Name xn p5) p2] (F.cx i').env).map (·.2)=[assign (.Subscript (.Subscript (.Name x p1) (.Name xi p4) p3) (.Name xn p5) p2) (F.cx i').env]:=by intro _;rfl) :
  Rn F (.Assign [.Subscript (.Subscript (.Name x p1) (.Name xi p4) p3) (.Name xn p5) p2] e pos) ρ (.nx (ρ.set j (some (.ow (ts.set i (.ow (us.set m t))))))):=by
 obtain⟨τ,y,z⟩:=he;refine⟨j5 τ (nD (iu (uX F.K) (bU j) (bU ji)) (bU jn) nu),fun i'=>oJ (y i') (hps i') (hs i') (hw i') (h1 i'),fun D σ G0 H0 G H r k=>?_⟩;obtain⟨fp,r⟩:=r;refine z σ G H fp _ r.st.s r.own r.g fun v1 G1 H1 f1 s1 o1 w1=>?_
 obtain⟨vi,acO,acP⟩:=r.own.gG ji _ S2;obtain⟨vn,acQ,acR⟩:=r.own.gG jn _ S3;obtain⟨v2,f2',d1,d2,d3,dn,d5,d7⟩:=r.chg h s1;obtain⟨l2,Gv,zD,rfl,fV,zH,rfl⟩:=d3;have gH:=BB.mp dn;obtain⟨l,xs,fw,g1,g2,g3,g4,g5,g6,g7,g8⟩:=zH.child hi gH.2;have ex:bu Gv n1=some (.ref l):=by
  unfold bu;rw[<- zH.length,hmi];exact g1
 have pV:m<us.length:=(rN hm).2.1;have zI:∀ a ∈ f1,a ∉ fp:=fun a ha hb=>by
  obtain⟨u,hu⟩:=r.own.there a hb;rw[w1.n a ha]at hu;cases hu
 obtain⟨gU,q1,q2,q3⟩:=g4.setAt pV o1 g6 w1.d fun a ha z=>zI a ha (d5 a (.tail _ (g5 a z)))
 obtain⟨fZ,b1,b2,b3⟩:=g8 (us.set m t) (xs.set m v1) gU q1 q2 (fun a ha=>(q3 a ha).imp id fun z z'=>zI a z (d5 a (.tail _ z'))) (fun z=>(q3 _ z).elim g7 fun z=>zI _ z (d5 _ (.tail _ g2)));have Gz:l2 ∉ fZ:=fun z=>by
  rcases b3 l2 z with z | z
  ·exact gH.1 z
  ·rcases q3 l2 z with z | z
   ·exact gH.1 (g5 _ z)
   ·exact zI _ z (d5 _ (.head _))
 have zJ:l2 ≠ l:=fun z=>gH.1 (z ▸ g2)
 refine⟨_,d1,_,acO,l2,Gv,n1,.ref l,rfl,aO acP,aL.of fV,ex,_,acQ,l,xs,n,m,rfl,aO acR,g3,by rw[<- g4.length];exact hm,k σ G1 _ (d7 l (.lst (xs.set m v1)) (.ow (ts.set i (.ow (us.set m t)))) (l2::fZ) (.tail _ g2) ⟨l2,_,fZ,rfl,by rw[aQ zJ];exact fV,b1,rfl⟩ (BB.mpr ⟨Gz,b2⟩) fun a ha=>?_)⟩;rcases gr.mp ha with z | z
 ·exact .inl (z ▸ .head _)
 ·rcases b3 a z with z | z
  ·exact .inl (.tail _ z)
  ·rcases q3 a z with z | z
   ·exact .inl (.tail _ (g5 a z))
   ·exact .inr ⟨w1.n a z,w1.g a z⟩
theorem dz.ab7 {K:Frag}{G0 H0 G H G1 H1:Hp}{ρ:En}{σ:St}{fp:List Addr}{j:Nat}{t:Tr}{d:Dv}{va:V}{p:Addr}(r:dz K G0 H0 G H ρ σ fp)(hj : ρ[j]?=some (some t))(s1:Step G H G1 H1)(hp:H1 p=none)(hv:Hv K G1 d va) :
  ∃ v,σ[j]?=some (some v)/\RS K G0 H0 G1 (upd H1 p (.tup [va,v])) (ρ.set j (some (.tp [.fz d,t]))) (σ.set j (some (.ref p))):=by
 obtain⟨v,f,fr,q1,q2,q3,q4⟩:=r.own.split hj;have bZ:=r8.mp (q4.nodup_iff.mp r.d);have kh:∀ a ∈ f,a ∈ fp:=fun a ha=>q4.mem_iff.mpr (nv _ ha)
 have pP:∀ a ∈ fr,a ∈ fp:=fun a ha=>q4.mem_iff.mpr (ij _ ha)
 have off:=r.own.off s1 r.g;have zK:p ∉ fp:=fun z=>by
  obtain⟨u,hu⟩:=r.own.there p z;rw[s1.h _ _ hu]at hp;cases hp
 have lt:j < ρ.length:=by
  rcases JJ j ρ.length with z | z
  ·exact z
  ·rw[nt z]at hj;cases hj
 have own:Ow K G1 (upd H1 p (.tup [va,v])) (.tp [.fz d,t]) (.ref p) (p::([]++(f++[]))) :=
  ⟨p,_,_,rfl,bO,⟨va,_,[],_,rfl,rfl,⟨rfl,hv⟩,v,_,f,[],rfl,rfl,(q2.mono s1.g s1.h).frame (fun z=>zK (kh p z)),rfl,rfl⟩,rfl⟩
 obtain⟨dC,p1,p2⟩:=((q3.mono s1.g s1.h).frame (o:=.tup [va,v]) (fun z=>zK (pP p z))).put (qH lt) own;rw[WA]at p1;have mem:∀ a ∈ dC,a=p\/a ∈ f\/a ∈ fr:=fun a ha=>by
  have:=p2.mem_iff.mp ha;simp at this;rcases this with z | z | z
  ·exact .inl z
  ·exact .inr (.inl z)
  ·exact .inr (.inr z)
 refine⟨v,q1,dC,r.st.trans (s1.trans (.hW s1.s hp)),p1,fun a ha=>?_,fun a ha=>?_,?_⟩
 ·rcases mem a ha with rfl | z | z
  ·exact s1.s.free hp
  ·exact off a (kh a z)
  ·exact off a (pP a z)
 ·rcases mem a ha with rfl | z | z
  ·exact r.st.h.free (s1.h.free hp)
  ·exact r.n a (kh a z)
  ·exact r.n a (pP a z)
 ·refine p2.nodup_iff.mpr ?_;simp only[WS,FF,ajz,ID];refine BB.mpr ⟨fun z=>?_,r8.mpr ⟨bZ.1,bZ.2.1,fun a ha b hb e=>bZ.2.2 a ha b hb e⟩⟩;rcases wb.mp z with z | z
  ·exact zK (kh p z)
  ·exact zK (pP p z)
theorem W3 {ι:Type}{F:bc ι}{e:Expr}{ρ:En}{pos:Pos}(j jb:Nat){x xb:Str}{us:List Tr}{t:Tr}{d:Dv}{p1 p2 p3 pb pt:Pos}{kt}(zL:j ≠ jb)(h : ρ[j]?=some (some (.ow us)))(hb : ρ[jb]?=some (some t))(he:bx F e ρ (.fz d))(hz:us.length<sizeLine)(hps:∀ i τ,PE (F.cx i) e τ->PS (F.cx i) (.Expr (.Call (.Attribute (.Name x p1) "append" p2) [.Tuple [e,.Name xb pb] kt pt] [] p3) pos) (sA (pH F.K "list" xC (bU j) (dc (sS (dc τ (dc (bU jb) dO))) dO)))) :
  Rn F (.Expr (.Call (.Attribute (.Name x p1) "append" p2) [.Tuple [e,.Name xb pb] kt pt] [] p3) pos) ρ (.nx ((ρ.set jb none).set j (some (.ow (us++[.tp [.fz d,t]]))))):=by
 obtain⟨τ,y,z⟩:=he;refine⟨_,fun i=>hps i τ (y i),fun D σ G0 H0 G H r k=>?_⟩;obtain⟨fp,r⟩:=r;obtain⟨l0,zm,zo,c1,c2,_⟩:=r.mut h (.refl r.st.s);obtain⟨vb,fb,frb,b1,_⟩:=r.own.split hb;refine⟨_,c1,.inl ⟨rfl,_,aL.of c2⟩,?_⟩;refine z σ G H fp _ r.st.s r.own r.g fun v3 G1 H1 f3 s1 o3 w3=>?_
 refine⟨vb,b1,by show 2<=sizeLine;decide,fun p hp=>?_⟩;obtain⟨v,e1,fp2,r2⟩:=r.ab7 hb s1 hp o3.2;rw[b1]at e1;cases e1;have zr:jb < ρ.length:=by
  rcases JJ jb ρ.length with z | z
  ·exact z
  ·rw[nt z]at hb;cases hb
 have acS:jb < σ.length:=(ir.mp b1).1;obtain⟨l,vs,v,d1,d2,d3,d4,d5⟩:=r2.move (j:=j) (j2:=jb) (us:=us) (t:=.tp [.fz d,t]) zL (by rw[BY (Ne.symm zL)];exact h) (by rw[LS zr]);rw[BY (Ne.symm zL),c1]at d1;cases d1;rw[LS acS]at d2;cases d2;refine⟨l0,vs,.ref p,rfl,rfl,d3,by rw[<- d4];exact hz,k σ G1 _ ?_⟩;rw[WA]at d5;have:=d5.vd (y:=jb) (u:=some vb) (by rw[BY zL,LS zr]);rw[WA,ua b1]at this;exact this
def QY (K:Frag):R2:=fun x y H Q=>∃ (d:LI) (ls:LL),Hv K H (dis d) x/\Hv K H (.lst (ls.map dis)) y/\Q (.bl (ls.contains d)) H
theorem ZH (a b:Int):dw (.int a) (.int b)=decide (a=b):=by
 show(a==b)=_;by_cases h:a=b
 ·rw[u4 h];simpa using h
 ·rw[tw h];simpa using h
theorem CO:∀ a b:LI,cJ (dis a) (dis b)=decide (a=b)
 |[],[] => rfl
 |[],_::_=>rfl
 |_::_,[] => rfl
 |x::a,y::b=>by
  have ih:fR (a.map di) (b.map di)=decide (a=b):=CO a b;show(dw (.int x) (.int y)&&fR (a.map di) (b.map di))=_;rw[ih,ZH];by_cases h:x=y<;>by_cases h2:a=b<;>simp[h,h2]
theorem aa7 {X:Cx}(hr:X.A.units+64<cLine):cX X (compareOp .In) (QY X.K):=by
 intro pins s σ H x y v u Q I rx ry h;obtain⟨d,ls,hx,hy,q⟩:=h;obtain⟨p,xs,rfl,hq,hl⟩:=hy;cases ry;obtain⟨its,r,pl,hz⟩:=I.list hq;have e1:=hl.length;have e2:=r.length;rw[aa]at e1;have at':∀ {j:Nat} {w:Value},its[j]?=some w->∃ l xj,ls[j]?=some l/\Hv X.K H (dis l) xj/\RelV xj w:=fun {j w} hw=>by
  have hj:=(ir.mp hw).1;have S4:ls[j]?=some ls[j]:=ab (by omega);obtain⟨xj,g1,g2⟩:=hl.get (show(ls.map dis)[j]?=some (dis ls[j]) by rw[ee,S4];rfl);obtain⟨w',g3,g4⟩:=r.get g1;rw[hw]at g3;cases g3;exact⟨_,xj,S4,g2,g4⟩
 refine SeqAt.in_listAt (fun w=>@decide (∃ j:Nat,its[j]?=some w/\ls[j]?=some d) (Classical.propDecidable _)) pl.isList (fun w hw=>?_) ⟨.bl _,H,I,rfl,?_⟩
 ·have hw':w ∈ its:=by simpa using hw
  obtain⟨j,hj,ew⟩:=ai9 hw';have lh:its[j]?=some w:=by rw[ab hj,ew]
  obtain⟨l,xj,g1,g2,g3⟩:=at' lh;have ea:=OO I (dis l) (dis d) X.A.in1 xj x w v (by show X.A.units+1+fj (dis l)<cLine;have:=xO l;omega) g2 hx g3 rx;rw[CO]at ea;have : @decide (∃ j:Nat,its[j]?=some w/\ls[j]?=some d) (Classical.propDecidable _)=decide (l=d):=by
   by_cases e:l=d
   ·rw[u4 e];exact @u4 _ (Classical.propDecidable _) ⟨j,lh,by rw[g1,e]⟩
   ·rw[tw e];refine @tw _ (Classical.propDecidable _) fun⟨j2,q1,q2⟩=>e ?_
    obtain⟨l2,xj2,p1,p2,p3⟩:=at' q1;rw[q2]at p1;cases p1;have ex:xj=xj2:=by
     obtain⟨a,_,rfl,_⟩:=id g2;obtain⟨b,_,rfl,_⟩:=id p2;cases g3;cases p3
     rfl
    subst ex;have:=xE I _ _ _ g2 p2;rw[CO]at this;exact Cn this
  rw[this];exact ea
 ·have:its.toArray.any (fun w=>@decide (∃ j:Nat,its[j]?=some w/\ls[j]?=some d) (Classical.propDecidable _))=ls.contains d:=by
   rw[show ∀ f:Value->Bool,its.toArray.any f=its.any f from fun f=>by simp];cases hc:ls.contains d with
   |true =>
    obtain⟨j,hj,ed⟩:=ai9 (show d ∈ ls by simpa using hc);exact Sm.mpr ⟨its[j]'(by omega),MW _,@u4 _ (Classical.propDecidable _) ⟨j,ab _,by rw[ab hj,ed]⟩⟩
   |false =>
    refine ajX.mpr fun w _ z=>?_
    obtain⟨j,_,hj⟩:=@Cn _ (Classical.propDecidable _) z;have:d ∈ ls:=mT hj;rw[show ls.contains d=true by simpa using this]at hc;cases hc
  rw[this];exact q
theorem aa8 {ι:Type}{F:bc ι}{ρ:En}{a b:Expr}{pos:Pos}{ta tb':Tr}{d:LI}{ls:LL}(ha:Ev F a ρ ta)(hb:Ev F b ρ tb')(ea:er ta=dis d)(eb:er tb'=.lst (ls.map dis))(hm:behindInMarks .In b=false):Et F (.Compare a [.In] [b] pos) ρ (ls.contains d) :=
 jU (r:=QY F.K) (fun i=>F.hK i ▸ aa7 (F.hr i).units) ha hb (fun G H x y Q s hx hy k=>⟨d,ls,(ea ▸ hx).mono s,(eb ▸ hy).mono s,k⟩) hm
theorem N1 {K:Frag}{G H:Hp}{d:Dv}{v:V}(h:Hv K G d v):∀ n:Nat,aE K G H (List.replicate n (.fz d)) (List.replicate n v) []
 |0=>⟨rfl,rfl⟩
 |n+1=>⟨v,_,[],[],rfl,rfl,⟨rfl,h⟩,N1 h n⟩
theorem MP {α:Type}(v : α):∀ n:Nat,(List.replicate n [v]).flatten=List.replicate n v
 |0=>rfl
 |n+1=>by rw[Pd,ajo,MP v n,Pd];rfl
theorem aa9 {ι:Type}{F:bc ι}{ρ:En}{a b:Expr}{pos:Pos}{d:Dv}{n:Int}(ha:Ev F a ρ (.ow [.fz d]))(hb:Ev F b ρ (ti n))(h0 : 0<=n)(h1:n<=1000):Ev F (.BinOp a .Mult b pos) ρ (.ow (List.replicate n.toNat (.fz d))):=by
 obtain⟨τa,pa,qa⟩:=ha;obtain⟨τb,pb,qb⟩:=hb;refine⟨iu QK τa τb,fun i=>D5 aaz (pa i) (pb i),fun σ G H Q s r k=>?_⟩;refine qa σ G H _ s r fun x G1 H1 fq s1 o1 w1=>qb σ G1 H1 _ s1.s (r.mono s1.g) fun y G2 H2 zD s2 o2 w2=>?_
 obtain⟨l,vs,fZ,rfl,hl,ol,rfl⟩:=o1;obtain⟨v,r',f1,f2,rfl,rfl,⟨rfl,hv⟩,rfl,rfl⟩:=ol;have big : 1000<sizeLine:=by decide
 refine⟨l,n,[v],rfl,aO o2.2,s2.h _ _ hl,by omega,by omega,by show 1*n.toNat<=_;omega,fun p hp=>?_⟩;rw[MP];exact k _ G2 _ [p] ((s1.trans s2).trans (.hW s2.s hp)) ⟨p,_,[],rfl,bO,N1 (hv.mono s2.g) _,rfl⟩ ⟨fun a ha=>by rw[rf.mp ha];exact(s1.h.trans s2.h).free hp,fun a ha=>by rw[rf.mp ha];exact s2.s.free hp,BB.mpr ⟨(fun z=>nomatch z),.nil⟩⟩
theorem aK.junk {K:Frag}{G H:Hp}{o:Option V}:∀ {ρ:En} {σ:St} {fp:List Addr} {j:Nat},aK K G H ρ σ fp->ρ[j]?=some none->aK K G H ρ (σ.set j o) fp
 |[],_,_,_,_,h=>by cases h
 |none::_,_,_,0,⟨o',r,h1,h2⟩,_=>by subst h1;exact⟨o,r,rfl,h2⟩
 |none::_,_,_,j+1,⟨o',r,h1,h2⟩,h=>by subst h1;exact⟨o',_,rfl,h2.junk (j:=j) h⟩
 |some _::_,_,_,0,_,h=>by cases h
 |some _::_,_,_,j+1,⟨v,r,f1,f2,h1,h2,h3,h4⟩,h=>by subst h1;exact⟨v,_,f1,f2,rfl,h2,h3,h4.junk (j:=j) h⟩
abbrev eW (r:List Dv):Tr:=.ow (r.map .fz)
theorem VI {ι:Type}{F:bc ι}{ρ:En}{e e2:Expr}{t2:Tr}{pos:Pos}(jx ja jb:Nat){x xa xb:Str}{rows rows':List (List Dv)}{ns:LI}{p1 p2 p3 p4 p5 p6 pz pc ps:Pos}{kk tp}(h : ρ[jx]?=some (some (.ow (rows.map eW))))(GA : ρ[ja]?=some none)(GB : ρ[jb]?=some none)(GC:jx ≠ ja)(GD:jx ≠ jb)(nQ:ja ≠ jb)(hn:Ev F e2 ρ t2)(en:er t2=dis ns)(nV:ns.length=rows.length)(GF:rows'.length=rows.length)(step:∀ (k:Nat) (row:List Dv) (n:Int),rows[k]?=some row->ns[k]?=some n->∃ m d,dv row.length n=some m/\rows'[k]?=some (row.set m d)/\bx F e (((ρ.set jx none).set ja (some (eW row))).set jb (some (ti n))) (.fz d))(hmz:F.mg "zip" = none)(hN:∀ i,(F.cx i).N.Nodup)(hNx:∀ i,(F.cx i).N[jx]?=some x:=by intro _;rfl)(hNa:∀ i,(F.cx i).N[ja]?=some xa:=by intro _;rfl)(hNb:∀ i,(F.cx i).N[jb]?=some xb:=by intro _;rfl)(hvx:∀ i,jI (F.cx i).env.scope x:=by intro _;first | exact Or.inl rfl | exact Or.inr (Or.inl rfl) | exact Or.inr (Or.inr rfl))(hdx:(x==("__debug__" : Str))=false:=by decide)(hcx:(x==("__classdict__" : Str))=false:=by decide)(hla:∀ i,Loc (F.cx i).env.scope xa:=by intro _;first | exact Or.inl rfl | exact Or.inr rfl)(hlb:∀ i,Loc (F.cx i).env.scope xb:=by intro _;first | exact Or.inl rfl | exact Or.inr rfl)(fa:∀ i,(F.cx i).fn xa=true\/(F.cx i).env.scope.names.lookup xa=some .local:=by intro _;first | exact .inl rfl | exact .inr rfl)(fb:∀ i,(F.cx i).fn xb=true\/(F.cx i).env.scope.names.lookup xb=some .local:=by intro _;first | exact .inl rfl | exact .inr rfl)(hg:∀ i,Gl (F.cx i) "zip" := by intro _;rfl)(hs:∀ i,starEach [.Name x p1,e2] (F.cx i).env=[(false,eval (.Name x p1) (F.cx i).env),(false,eval e2 (F.cx i).env)]:=by intro _;rfl)(cL:∀ i,starEach [e2] (F.cx i).env=[(false,eval e2 (F.cx i).env)]:=by intro _;rfl)(hps:∀ i,PG (F.cx i) (.Subscript (.Name xa p4) (.Name xb p5) p6) (nD (bU ja) (bU jb) nu))(hw1:∀ i,swapsWithSole [.Subscript (.Name xa p4) (.Name xb p5) p6] e ps.line (F.cx i).env=pure false:=by intro _;rfl)(hw2:∀ i,swappedStores [.Subscript (.Name xa p4) (.Name xb p5) p6] e (F.cx i).env=pure none:=by intro _;rfl)(hw3:∀ i,(assignEach [.Subscript (.Name xa p4) (.Name xb p5) p6] (F.cx i).env).map (·.2)=[assign (.Subscript (.Name xa p4) (.Name xb p5) p6) (F.cx i).env]:=by intro _;rfl)(hx:∀ i,(F.cx i).xe=cR:=by intro _;rfl)(GH:∀ i y,foldedSetIterable (.Call (.Name "zip" pz) [.Name x p1,e2] [] pc) (F.cx i).env y=pure y:=by intro _ _;rfl) :
  Rn F (.For (.Tuple [.Name xa p2,.Name xb p3] kk tp) (.Call (.Name "zip" pz) [.Name x p1,e2] [] pc) [.Assign [.Subscript (.Name xa p4) (.Name xb p5) p6] e ps] [] pos) ρ (.nx (ρ.set jx (some (.ow (rows'.map eW))))):=by
 obtain⟨zM,y2,z2⟩:=hn.use;refine⟨sR (Fb F.K (dc (bU jx) (dc zM dO))) (yK F.K 2 (nr (cO ja) (nr (cO jb) yJ))) (j5 (uE F e) (nD (bU ja) (bU jb) nu)),fun i=>m7 (yT (hx i)) (F.calm i) (F.hK i ▸ OX (hg i) ((F.hm i).symm ▸ hmz) (aX (m4 (hNx i) (hvx i) hdx hcx) (aX (y2 i) cu (by rw[cL i];rfl)) (by rw[hs i,cL i])) (hs i) (cL i)) (F.hK i ▸ x8 (F.calm i) (lJ (gK (hN i) (hNa i) (hla i) (fa i)) (lJ (gK (hN i) (hNb i) (hlb i) (fb i)) xA))) (fB (oJ (oS i) (hps i) (hw1 i) (hw2 i) (hw3 i))) (GH i),fun D σ G0 H0 G H r k=>?_⟩;obtain⟨fp,r⟩:=r;obtain⟨lx,vs,fq,c1,c2,_,c4,_⟩:=r.mut h (.refl r.st.s);refine⟨_,c1,z2 σ G H _ r.st.s r.own.gG fun v2 G1 H1 s1 zC=>?_⟩;rw[en]at zC;obtain⟨l2,ws,rfl,g3,g4⟩:=zC;have ews:=lK g4;subst ews;have lvs:vs.length=rows.length:=by
  have:=c4.length;rw[aa]at this;exact this.symm
 have r1:dz F.K G0 H0 G1 H1 ρ σ fp:=⟨r.st.trans s1,r.own.mono s1.g s1.h,r.own.off s1 r.g,r.n,r.d⟩
 have kb:=k.under r1.base;refine⟨lx,l2,vs,ns.map V.int,rfl,aL.of (s1.h _ _ c2),s1.s.seq g3,?_⟩;have lr:jx < ρ.length:=by
  rcases JJ jx ρ.length with z | z
  ·exact z
  ·rw[nt z]at h;cases h
 let inv:Nat->En:=fun n=>ρ.set jx (some (.ow ((rows'.take n++rows.drop n).map eW)))
 have i0:inv 0=ρ:=by
  show ρ.set jx (some (.ow ((rows'.take 0++rows.drop 0).map eW)))=ρ;rw[akJ,WS,List.drop_zero];refine IF fun m=>?_
  rw[Lu];by_cases e:jx=m
  ·subst e;rw[lp rfl,lp lr,h]
  ·rw[mf e]
 have mn:min vs.length (ns.map V.int).length=rows.length:=by rw[aa,lvs,nV,ajE]
 refine⟨fun n m' aB H'=>m'=rows.length-n/\n<=rows.length/\aB[jx]?=some (some (.ref lx))/\H' lx=some (.lst vs)/\∃ G',RS F.K G1 (less H1 fp) G' H' (inv n) aB,⟨_,rfl,DO _,c1,s1.h _ _ c2,G1,fp,i0.symm ▸ r1.rebase⟩,?_⟩;rintro n m' aB H' ⟨rfl,tf,zN,nU,G',dC,r'⟩;have S5:aL F.K H' l2 (ns.map V.int):=(r'.st.g.trans r'.st.s).seq g3;by_cases aT:n<rows.length
 ·refine .inr ⟨⟨aL.of nU,S5,by rw[mn];exact aT⟩,fun bE H2=>bE[jx]?=some (some (.ref lx))/\H2 lx=some (.lst vs)/\∃ G2,RS F.K G1 (less H1 fp) G2 H2 (inv (n+1)) bE,fun bE H2 z=>⟨rows.length-(n+1),Nat.sub_succ_lt_self _ _ aT,rfl,aT,z⟩,fun xT H3 y=>?_⟩;obtain⟨T,vx,vy,hT,ex,ey,rfl,rfl⟩:=y;have pI:n<ns.length:=nV ▸ aT
  have eyn:vy=.int (ns[n]'pI):=by
   rw[ee,ab pI]at ey;exact(xw ey).symm
  subst eyn;have iI:rows[n]?=some (rows[n]'aT):=ab aT;have S6:ns[n]?=some (ns[n]'pI):=ab pI;generalize S7:rows[n]'aT=row at iI;generalize ns[n]'pI=nn at S6;obtain⟨m,d,hm,aR,τe,ye,ze⟩:=step n row nn iI S6;have s3:Step G' H' G' (upd H' T (.tup [vx,.int nn])):=.hW r'.st.s hT;have la:ja < ρ.length:=(ir.mp GA).1;have lb:jb < ρ.length:=(ir.mp GB).1;have lsg:(inv n).length=aB.length:=r'.own.len;have S8:aB.length=ρ.length:=by rw[<- lsg];exact ET
  have ia:(inv n)[ja]?=some none:=by show(ρ.set jx _)[ja]?=_;rw[BY GC];exact GA
  have ib:(inv n)[jb]?=some none:=by show(ρ.set jx _)[jb]?=_;rw[BY GD];exact GB
  refine⟨T,[vx,.int nn],rfl,cW.of bO,rfl,vx,[.int nn],rfl,.int nn,[],rfl,rfl,?_⟩;show j5 (uE F e) (nD (bU ja) (bU jb) nu) _ ((aB.set ja (some vx)).set jb (some (.int nn))) (upd H' T (.tup [vx,.int nn]));have r3:dz F.K G1 (less H1 fp) G' (upd H' T (.tup [vx,.int nn])) (inv n) ((aB.set ja (some vx)).set jb (some (.int nn))) dC :=
   ⟨r'.st.trans s3,((r'.own.mono s3.g s3.h).junk ia).junk ib,r'.g,r'.n,r'.d⟩
  have zO:upd H' T (.tup [vx,.int nn]) lx=some (.lst vs):=s3.h _ _ nU;have gT:((aB.set ja (some vx)).set jb (some (.int nn)))[jx]?=some (some (.ref lx)):=by rw[BY GD.symm,BY GC.symm];exact zN
  have zP:((aB.set ja (some vx)).set jb (some (.int nn)))[ja]?=some (some vx):=by rw[BY nQ.symm,Lu,lp rfl,lp (S8 ▸ la)]
  have zQ:((aB.set ja (some vx)).set jb (some (.int nn)))[jb]?=some (some (.int nn)):=by rw[Lu,lp rfl,lp (by rw[ET];exact S8 ▸ lb)]
  generalize upd H' T (.tup [vx,.int nn])=H3 at r3 zO;generalize (aB.set ja (some vx)).set jb (some (.int nn))=gD at r3 gT zP zQ;have S9:(inv n)[jx]?=some (some (.ow ((rows'.take n++rows.drop n).map eW))):=by show(ρ.set jx _)[jx]?=_;rw[Lu,lp rfl,lp lr]
  have QZ:min n rows'.length=n:=Nat.min_eq_left (GF ▸ tf);have jo:((rows'.take n++rows.drop n).map eW)[n]?=some (eW row):=by
   rw[ee,LH (by rw[NG];exact Nat.min_le_left _ _),NG,List.getElem?_drop,QZ,Nat.sub_self,ak5,iI];rfl
  obtain⟨v0,f0,fr,q1,q2,q3,q4⟩:=r3.own.split S9;rw[gT]at q1;cases q1;obtain⟨lx',ki,fqx,GI,lg,ol0,rfl⟩:=q2;cases GI;rw[zO]at lg;cases lg;have bZ:=r8.mp (q4.nodup_iff.mp r3.d);have ndx:=BB.mp bZ.1;obtain⟨l,xs,fw,k1,k2,k3,k4,k5,k6,k7,k8⟩:=ol0.child jo ndx.2;rw[ex]at k1;cases k1;have Q0:∀ a ∈ lx::fqx,a ∈ dC:=fun a ha=>q4.mem_iff.mpr (nv _ ha)
  have acT:∀ a ∈ fr,a ∈ dC:=fun a ha=>q4.mem_iff.mpr (ij _ ha)
  have ej:(inv n).set jx none=ρ.set jx none:=by show(ρ.set jx _).set jx none=_;rw[WA]
  rw[ej]at q3;have ja1:(ρ.set jx none)[ja]?=some none:=by rw[BY GC];exact GA
  obtain⟨fa',b1,b2⟩:=q3.put ja1 (show Ow F.K G' H3 (eW row) (.ref l) (l::fw)from⟨l,xs,fw,rfl,k3,k4,rfl⟩);have jb1:((ρ.set jx none).set ja (some (eW row)))[jb]?=some none:=by rw[BY nQ,BY GD];exact GB
  obtain⟨Ta,b3,b4⟩:=b1.put jb1 (show Ow F.K G' H3 (ti nn) (.int nn) []from⟨rfl,rfl,rfl⟩);have eσ:(gD.set ja (some (.ref l))).set jb (some (.int nn))=gD:=by
   have h1:gD.set ja (some (.ref l))=gD:=by
    refine IF fun q=>?_
    rw[Lu];by_cases z:ja=q
    ·subst z;rw[lp rfl,zP];split
     ·rfl
     ·rename_i h0;exact absurd (ir.mp zP).1 h0
    ·rw[mf z]
   rw[h1];refine IF fun q=>?_
   rw[Lu];by_cases z:jb=q
   ·subst z;rw[lp rfl,zQ];split
    ·rfl
    ·rename_i h0;exact absurd (ir.mp zQ).1 h0
   ·rw[mf z]
  rw[eσ]at b3;have acU:∀ a ∈ Ta,a ∈ dC:=fun a ha=>by
   have h1:=b4.mem_iff.mp ha;rw[WS]at h1;rcases wb.mp (b2.mem_iff.mp h1)with z | z
   ·rcases gr.mp z with rfl | z
    ·exact Q0 _ (.tail _ k2)
    ·exact Q0 _ (.tail _ (k5 a z))
   ·exact acT a z
  refine⟨τe,ye,ze gD G' H3 Ta _ r3.st.s b3 (fun a ha=>r3.g a (acU a ha)) fun v1 G4 H4 f1 s4 o1 w1=>?_⟩;obtain⟨rfl,hv1⟩:=o1;obtain⟨v2,f2',d1,d2,d3,dn,d5,d7⟩:=r3.chg S9 s4;rw[gT]at d1;cases d1;obtain⟨lx',ki,zD,GI,fV,zH,rfl⟩:=d3;cases GI;have:ki=vs:=by
   have h1:=s4.h _ _ zO;rw[h1]at fV;cases fV;rfl
  subst this;have gH:=BB.mp dn;obtain⟨l',kZ,fw2,g1,g2,g3',Tb,g5,g6,g7,g8⟩:=zH.child jo gH.2;rw[ex]at g1;cases g1;have pV:m<(row.map Tr.fz).length:=by rw[aa];exact(rN hm).2.1
  obtain⟨gU,t1,t2',t3⟩:=Tb.setAt pV (show Ow F.K G4 H4 (.fz d) v1 []from⟨rfl,hv1⟩) g6 .nil fun a ha=>nomatch ha
  have zR:∀ a ∈ gU,a ∈ fw2:=fun a ha=>(t3 a ha).elim id fun z=>nomatch z
  obtain⟨fZ,b1',b2',Tc⟩:=g8 _ _ gU t1 t2' (fun a ha=>.inl (zR a ha)) (fun z=>g7 (zR _ z));have Gz:lx ∉ fZ:=fun z=>by
   rcases Tc lx z with z | z
   ·exact gH.1 z
   ·exact gH.1 (g5 _ (zR _ z))
  have zJ:lx ≠ l:=fun z=>gH.1 (z ▸ g2)
  have lxs:kZ.length=row.length:=by
   have:=Tb.length;rw[aa]at this;exact this.symm
  have acV:((rows'.take n++rows.drop n).map eW).set n (.ow ((row.map Tr.fz).set m (.fz d)))=(rows'.take (n+1)++rows.drop (n+1)).map eW:=by
   have e1:Tr.ow ((row.map Tr.fz).set m (.fz d))=eW (row.set m d):=by show _=Tr.ow _;rw[aj5]
   have GJ:n<rows'.length:=GF ▸ aT
   have e2:rows'[n]'GJ=row.set m d:=by rw[ab GJ]at aR;exact xw aR
   rw[e1,<- aj5];congr 1;rw[List.set_append_right _ _ (by rw[NG];exact Nat.min_le_left _ _),NG,QZ,Nat.sub_self,HT aT,akB,List.take_succ_eq_append_getElem GJ,e2,ID];rfl
  refine⟨_,zP,_,zQ,l,kZ,nn,m,rfl,rfl,g3',by rw[lxs];exact hm,gT,by rw[aQ zJ];exact fV,G4,?_⟩;have:=d7 l (.lst (kZ.set m v1)) (.ow (((rows'.take n++rows.drop n).map eW).set n (.ow ((row.map Tr.fz).set m (.fz d))))) (lx::fZ) (.tail _ g2) ⟨lx,_,fZ,rfl,by rw[aQ zJ];exact fV,b1',rfl⟩ (BB.mpr ⟨Gz,b2'⟩) fun a ha=>?_
  ·rw[acV]at this;have ei:(inv n).set jx (some (.ow ((rows'.take (n+1)++rows.drop (n+1)).map eW)))=inv (n+1):=by show(ρ.set jx _).set jx _=_;rw[WA]
   rw[ei]at this;exact this
  ·rcases gr.mp ha with z | z
   ·exact .inl (z ▸ .head _)
   ·rcases Tc a z with z | z
    ·exact .inl (.tail _ z)
    ·exact .inl (.tail _ (g5 a (zR a z)))
 ·have en':n=rows.length:=Nat.le_antisymm tf (Nat.le_of_not_lt aT);subst en';refine .inl ⟨⟨aL.of nU,S5,mn.symm⟩,?_⟩;have ef:inv rows.length=ρ.set jx (some (.ow (rows'.map eW))):=by
   show ρ.set jx _=_;rw[ajA,FF,<- GF,Mn]
  exact kb aB G' H' ⟨dC,ef ▸ r'⟩
end L2
namespace So
open PySem PyProof.Rows
abbrev SM:=StateT SortSt Sem
section
variable {κ:KeyKind}
def kf (κ:KeyKind)(x:Keyed) : κ.α:=(κ.keyOf x.1).getD κ.dflt
def Kd (κ:KeyKind)(l:List Keyed):Prop:=∀ x ∈ l,(κ.keyOf x.1).isSome=true
variable {a b out:List Keyed}{ia ib:Nat}
end
structure tE (prog:Program) (w:World) (A:Around) (E:Value->Shared->Prop) (s:Shared) (kd:SortKind) (κ:KeyKind):Prop where
 lt:∀ (st:SortSt) (x y:Keyed) (Q:Option Bool->SortSt->Prop),kindOf st=kd->(κ.keyOf x.1).isSome=true->(κ.keyOf y.1).isSome=true->Q (some (κ.blt (kf κ x) (kf κ y))) st->wpS (model prog w) A E s (lt' x y) Q st
section
variable {prog:Program}{w:World}{A:Around}{E:Value->Shared->Prop}{s:Shared}{kd:SortKind}{κ:KeyKind}
theorem MQ {arr:Array Keyed}{i:Nat}{x:Keyed}{st:SortSt}{Q:Keyed->SortSt->Prop}(e:arr[i]?=some x)(h:Q x st):wpS (model prog w) A E s (elem' arr i) Q st:=by
 rw[elem'_eq,e];exact ON h
def kA (κ:KeyKind)(arr:Array Keyed)(i:Nat) : κ.α:=match arr[i]? with | some x=>kf κ x | none=>κ.dflt
theorem Eh {arr:Array Keyed}{i:Nat}{x:Keyed}(e:arr[i]?=some x):kA κ arr i=kf κ x:=by unfold kA;rw[e]
theorem Qg {α:Type}{arr:Array α}{i:Nat}(h:i<arr.size):∃ x,arr[i]?=some x/\x ∈ arr.toList:=⟨arr[i],getElem?_pos arr i h,by simp⟩
end
structure SB (kd:SortKind) (a0:Array Keyed) (p:Array (Nat×Nat×Nat)) (lo:Nat) (x0:Array Keyed) (st:SortSt):Prop where
 perm:(arrOf st).Perm a0
 kind:kindOf st=kd
 fail:failedOf st=none
 pend:pendingOf st=p
 low:∀ i,i<lo->(arrOf st)[i]?=x0[i]?
def SS (κ:KeyKind)(xs:Array Keyed)(lo n:Nat):Prop:=∀ i j,i<=j->j<n->κ.kle (kA κ xs (lo+i)) (kA κ xs (lo+j))
def DS (κ:KeyKind)(xs:Array Keyed)(lo n:Nat):Prop:=∀ i j,i<=j->j<n->κ.kle (kA κ xs (lo+j)) (kA κ xs (lo+i))
section
variable {κ:KeyKind}{kd:SortKind}{a0 x0:Array Keyed}{p:Array (Nat×Nat×Nat)}{lo:Nat}{st:SortSt}
theorem SB.size (h:SB kd a0 p lo x0 st):(arrOf st).size=a0.size:=h.perm.size_eq
theorem SB.set (h:SB kd a0 p lo x0 st){xs:Array Keyed}(hp:xs.Perm (arrOf st))(hl:∀ i,i<lo->xs[i]?=(arrOf st)[i]?):SB kd a0 p lo x0 (setArr st xs) :=
 ⟨hp.trans h.perm,h.kind,h.fail,h.pend,fun i hi=>(hl i hi).trans (h.low i hi)⟩
theorem SB.keys (h:SB kd a0 p lo x0 st)(k:Kd κ a0.toList):Kd κ (arrOf st).toList:=fun x hx=>k x ((aks.mp h.perm).mem_iff.mp hx)
theorem uc {xs ys:Array Keyed}{i j:Nat}(e:xs[i]?=ys[j]?):kA κ xs i=kA κ ys j:=by unfold kA;rw[e]
theorem BJ {xs:Array Keyed}{i j:Nat}(hj:j<=xs.size)(k:Nat):kA κ (mirror xs i j ((j-i) / 2)) k=if i<=k/\k<j then kA κ xs (i+j-1-k)else kA κ xs k:=by
 have e:=getElem?_mirror_all (i:=i) hj k;split
 ·rename_i z;rw[lp z]at e;exact uc e
 ·rename_i z;rw[mf z]at e;exact uc e
theorem wC {xs:Array Keyed}{i j:Nat}(hj:j<=xs.size)(k:Nat)(hk:k<i):(mirror xs i j ((j-i) / 2))[k]?=xs[k]?:=by
 rw[getElem?_mirror_all hj,mf (by omega)]
theorem uq {xs:Array Keyed}{i j:Nat}(hj:j<=xs.size)(he:∀ k,i<=k->k<j->kA κ xs k=kA κ xs (j-1))(k:Nat):kA κ (mirror xs i j ((j-i) / 2)) k=kA κ xs k:=by
 rw[BJ hj];split
 ·rw[he _ (by omega) (by omega),he k (by omega) (by omega)]
 ·rfl
theorem Mg {xs:Array Keyed}{src d:Nat}(hs:src<xs.size)(hd:d<=src)(k:Nat):kA κ (bubble xs src d) k=if k=src-d then kA κ xs src else if src-d<k/\k<=src then kA κ xs (k-1)else kA κ xs k:=by
 have e:=getElem?_bubble hs d hd k;split
 ·rename_i z;rw[lp z]at e;exact uc e
 ·rename_i z
  rw[mf z]at e;split
  ·rename_i z2;rw[lp z2]at e;exact uc e
  ·rename_i z2;rw[mf z2]at e;exact uc e
theorem W4 {xs:Array Keyed}{src d:Nat}(hs:src<xs.size)(hd:d<=src)(k:Nat)(hk:k<src-d):(bubble xs src d)[k]?=xs[k]?:=by
 rw[getElem?_bubble hs d hd,mf (by omega),mf (by omega)]
end
section
variable {prog:Program}{w:World}{A:Around}{E:Value->Shared->Prop}{s:Shared}{kd:SortKind}{κ:KeyKind}{a0 x0:Array Keyed}{p:Array (Nat×Nat×Nat)}{lo:Nat}
theorem sj (C:tE prog w A E s kd κ)(k0:Kd κ a0.toList){st:SortSt}(hB:SB kd a0 p lo x0 st){i j:Nat}{Q:Option Bool->SortSt->Prop}(hi:i<a0.size)(hj:j<a0.size)(h:Q (some (κ.blt (kA κ (arrOf st) i) (kA κ (arrOf st) j))) st):wpS (model prog w) A E s (ltAt' i j) Q st:=by
 obtain⟨x,ex,mx⟩:=Qg (arr:=arrOf st) (i:=i) (by rw[hB.size];exact hi);obtain⟨y,ey,my⟩:=Qg (arr:=arrOf st) (i:=j) (by rw[hB.size];exact hj);rw[Eh ex,Eh ey]at h;rw[ltAt'_eq];refine LP (wpS_get ?_);show wpS _ _ _ _ (elem' (arrOf st) i >>= fun x=>elem' (arrOf st) j >>= fun y=>lt' x y) Q st;exact LP (MQ ex (LP (MQ ey (C.lt st x y _ hB.kind (hB.keys k0 x mx) (hB.keys k0 y my) h))))
theorem O1 (C:tE prog w A E s kd κ)(k0:Kd κ a0.toList){st:SortSt}(hB:SB kd a0 p lo x0 st){n fh:Nat}(n1 : 1<=n)(hn:n<=fh)(hr:lo+fh<=a0.size)(hs:SS κ (arrOf st) lo n)(f:Nat->(Option (Option Nat)×Nat)->SM (ForInStep (Option (Option Nat)×Nat)))(hf:∀ (x n:Nat) (Q:ForInStep (Option (Option Nat)×Nat)->SortSt->Prop),1<=n->n<fh->(κ.klt (kA κ (arrOf st) (lo+n)) (kA κ (arrOf st) (lo+n-1))->Q (.done (none,n)) st)->(κ.kle (kA κ (arrOf st) (lo+n-1)) (kA κ (arrOf st) (lo+n))->Q (.yield (none,n+1)) st)->wpS (model prog w) A E s (f x (none,n)) Q st) :
  wpS (model prog w) A E s (forIn [n:fh] ((none,n):Option (Option Nat)×Nat) f) (fun c az=>az=st/\∃ m,c=(none,m)/\n<=m/\m<=fh/\SS κ (arrOf st) lo m/\(m=fh\/κ.klt (kA κ (arrOf st) (lo+m)) (kA κ (arrOf st) (lo+m-1)))) st:=by
 refine aj6 (I:=fun t c az=>az=st/\c=(none,t)/\SS κ (arrOf st) lo t) ?_ ?_ ⟨rfl,rfl,hs⟩
 ·rintro t c az h1 h2 ⟨rfl,rfl,gI⟩;refine hf t t _ (by omega) h2 (fun z=>⟨rfl,t,rfl,h1,by omega,gI,.inr z⟩) (fun z=>⟨rfl,rfl,fun i j dZ hj=>?_⟩);by_cases e:j<t
  ·exact gI i j dZ e
  ·have:j=t:=by omega
   subst this;by_cases e2:i=j
   ·subst e2;exact OP _
   ·refine akf (gI i (j-1) (by omega) (by omega)) ?_;rw[show lo+(j-1)=lo+j-1 by omega];exact z
 ·rintro c az ⟨rfl,rfl,gI⟩;rw[show max n fh=fh by omega]at gI ⊢;exact⟨rfl,fh,rfl,hn,br _,gI,.inl rfl⟩
theorem abb (C:tE prog w A E s kd κ)(k0:Kd κ a0.toList){st:SortSt}(hB:SB kd a0 p lo x0 st){fh:Nat}{Q:Option Nat->SortSt->Prop}(n1 : 1<=fh)(hr:lo+fh<=a0.size)(h:∀ m az,SB kd a0 p lo x0 az->1<=m->m<=fh->SS κ (arrOf az) lo m->Q (some m) az):wpS (model prog w) A E s (countRun' lo fh) Q st:=by
 have s1:SS κ (arrOf st) lo 1:=fun i j dZ hj=>by
  have:i=j:=by omega
  subst this;exact OP _
 refine LP (wpS_mono (O1 C k0 hB (br 1) n1 hr s1 _ fun x n Q h1 h2 q1 q2=>?_) ?_)
 ·(with_reducible conv=>arg 5;whnf)
  refine LP (sj C k0 hB (by omega) (by omega) ?_)
  (try dsimp -zeta only)
  cases e : κ.blt (kA κ (arrOf st) (lo+n)) (kA κ (arrOf st) (lo+n-1))with
  |true=>rw[lp rfl];exact ON (q1 e)
  |false=>rw[mf (by decide)];(with_reducible conv=>arg 5;whnf);exact ON (q2 e)
 rintro c az ⟨rfl,n,rfl,m1,m2,hs,Td⟩
 (with_reducible conv=>arg 5;whnf)
 (try dsimp -zeta only)
 by_cases hz:(n==fh)=true
 ·rw[lp hz];exact ON (h n _ hB m1 m2 hs)
 rw[mf hz];have zA:n ≠ fh:=fun z=>hz (OR.mpr z)
 have aT:=Td.resolve_left zA
 extract_lets +onlyGivenNames -merge -underBinder Qh
 obtain⟨jp,vU⟩:∃ z,z=Qh:=⟨Qh,rfl⟩
 rw[<- vU]
 suffices J:∀ st,SB kd a0 p lo x0 st->DS κ (arrOf st) lo (n+1)->wpS (model prog w) A E s (jp ()) Q st by
  by_cases hg:n > 1
  ·rw[lp hg];refine LP (sj C k0 hB (by omega) (by omega) ?_)
   (try dsimp -zeta only)
   cases e : κ.blt (kA κ (arrOf az) lo) (kA κ (arrOf az) (lo+n-1))with
   |true=>rw[lp rfl];exact ON (h n _ hB m1 m2 hs)
   |false =>
    rw[mf (by decide)];have hsz:lo+n<=(arrOf az).size:=by rw[hB.size];omega
    have all:∀ k,lo<=k->k<lo+n->kA κ (arrOf az) k=kA κ (arrOf az) (lo+n-1):=fun k b1 b2=>by
     have c1:=hs 0 (k-lo) (by omega) (by omega);have c2:=hs (k-lo) (n-1) (by omega) (by omega);rw[show lo+(k-lo)=k by omega]at c1 c2;rw[show lo+(n-1)=lo+n-1 by omega]at c2;exact KeyOrd.kle_antisymm c2 (akf (show κ.kle _ _ from e) c1)
    refine LP (akQ (J _ (hB.set (mirror_perm _ _ _ _) fun i hi=>wC hsz i hi) fun i j dZ hj=>?_));show κ.kle (kA κ (mirror (arrOf az) _ _ _) _) (kA κ (mirror (arrOf az) _ _ _) _);rw[uq hsz all,uq hsz all];by_cases S3:j<n
    ·rw[all (lo+i) (by omega) (by omega),all (lo+j) (by omega) (by omega)];exact OP _
    ·have:j=n:=by omega
     subst this;by_cases e2:i=j
     ·subst e2;exact OP _
     ·rw[all (lo+i) (by omega) (by omega)];exact ajZ aT
  ·rw[mf hg];have:n=1:=by omega
   subst this;refine J _ hB fun i j dZ hj=>?_
   by_cases e2:i=j
   ·subst e2;exact OP _
   ·have i0:i=0:=by omega
    have j1:j=1:=by omega
    subst i0 j1;exact ajZ aT
 clear hs Td aT hB s1;intro st hB hd;rw[vU]
 (try dsimp -zeta only)
 refine LP (wpS_lift (wpAny_rule ⟨rfl,?_⟩))
 (with_reducible conv=>arg 5;whnf)
 refine LP (wpS_mono (aj6 (I:=fun t c az=>∃ q,c=(none,t,q)/\SB kd a0 p lo x0 az/\DS κ (arrOf az) lo t/\q+1<=t/\∀ i,t-(q+1)<=i->i<t->kA κ (arrOf az) (lo+i)=kA κ (arrOf az) (lo+t-1))
  (Q:=fun c az=>∃ t q,c=(none,t,q)/\1<=t/\t<=fh/\SB kd a0 p lo x0 az/\DS κ (arrOf az) lo t/\q+1<=t/\∀ i,t-(q+1)<=i->i<t->kA κ (arrOf az) (lo+i)=kA κ (arrOf az) (lo+t-1)) ?_ ?_ ⟨0,rfl,hB,hd,by omega,fun i b1 b2=>by rw[show lo+i=lo+(n+1)-1 by omega]⟩) ?_)
 ·rintro t c az t1 t2 ⟨q,rfl,hB,hd,hq,he⟩;have hsz:lo+t<=(arrOf az).size:=by rw[hB.size];omega
  (with_reducible conv=>arg 5;whnf)
  (try dsimp -zeta only)
  refine LP (sj C k0 hB (by omega) (by omega) ?_)
  (try dsimp -zeta only)
  extract_lets +onlyGivenNames -merge -underBinder O2
  obtain⟨j1,tq⟩:∃ z,z=O2:=⟨O2,rfl⟩
  rw[<- tq];cases e : κ.blt (kA κ (arrOf az) (lo+t)) (kA κ (arrOf az) (lo+t-1))with
  |true =>
   rw[lp rfl]
   extract_lets +onlyGivenNames -merge -underBinder O3
   obtain⟨j2,vQ⟩:∃ z,z=O3:=⟨O3,rfl⟩
   rw[<- vQ];have step:∀ xs:Array Keyed,(∀ k,kA κ xs k=kA κ (arrOf az) k)->DS κ xs lo (t+1):=fun xs hk i j dZ hj=>by
    rw[hk,hk];by_cases GK:j<t
    ·exact hd i j dZ GK
    ·have:j=t:=by omega
     subst this;by_cases e2:i=j
     ·subst e2;exact OP _
     ·refine akf (ajZ e) ?_;have:=hd i (j-1) (by omega) (by omega);rwa [show lo+(j-1)=lo+j-1 by omega]at this
   have tG:∀ k,lo+t-(q+1)<=k->k<lo+t->kA κ (arrOf az) k=kA κ (arrOf az) (lo+t-1):=fun k b1 b2=>by
    have:=he (k-lo) (by omega) (by omega);rwa [show lo+(k-lo)=k by omega]at this
   split
   ·refine LP (akQ ?_);rw[vQ]
    (with_reducible conv=>arg 5;whnf)
    rw[tq]
    (with_reducible conv=>arg 5;whnf)
    exact ON ⟨0,rfl,hB.set (mirror_perm _ _ _ _) fun i hi=>wC hsz i (by omega),step _ (uq hsz tG),by omega,fun i b1 b2=>by rw[show lo+i=lo+(t+1)-1 by omega]⟩
   ·rw[vQ]
    (with_reducible conv=>arg 5;whnf)
    rw[tq]
    (with_reducible conv=>arg 5;whnf)
    exact ON ⟨0,rfl,hB,step _ (fun _=>rfl),by omega,fun i b1 b2=>by rw[show lo+i=lo+(t+1)-1 by omega]⟩
  |false =>
   rw[mf (by decide)];refine LP (sj C k0 hB (by omega) (by omega) ?_)
   (try dsimp -zeta only)
   cases e2 : κ.blt (kA κ (arrOf az) (lo+t-1)) (kA κ (arrOf az) (lo+t))with
   |true =>
    rw[lp rfl];exact ON ⟨t,q,rfl,by omega,by omega,hB,hd,hq,he⟩
   |false =>
    rw[mf (by decide)]
    (with_reducible conv=>arg 5;whnf)
    rw[tq]
    (with_reducible conv=>arg 5;whnf)
    have eq:kA κ (arrOf az) (lo+t)=kA κ (arrOf az) (lo+t-1):=KeyOrd.kle_antisymm e2 e;refine ON ⟨q+1,rfl,hB,fun i j dZ hj=>?_,by omega,fun i b1 b2=>?_⟩
    ·by_cases GK:j<t
     ·exact hd i j dZ GK
     ·have:j=t:=by omega
      subst this;by_cases e3:i=j
      ·subst e3;exact OP _
      ·rw[eq];have:=hd i (j-1) (by omega) (by omega);rwa [show lo+(j-1)=lo+j-1 by omega]at this
    ·rw[show lo+(t+1)-1=lo+t by omega];by_cases hit:i=t
     ·subst hit;rfl
     ·rw[eq];exact he i (by omega) (by omega)
 ·rintro c az ⟨q,rfl,hB,hd,hq,he⟩;rw[show max (n+1) fh=fh by omega]at hd hq he ⊢;exact⟨fh,q,rfl,by omega,br _,hB,hd,hq,he⟩
 clear hB hd;rintro c az ⟨t,q,rfl,t1,t2,hB,hd,hq,he⟩;have hsz:lo+t<=(arrOf az).size:=by rw[hB.size];omega
 (extract_lets +onlyGivenNames -merge -underBinder ZI ZJ ZK ZL;subst ZI ZJ ZK ZL)
 (try dsimp -zeta only)
 extract_lets +onlyGivenNames -merge -underBinder O4
 obtain⟨j3,Te⟩:∃ z,z=O4:=⟨O4,rfl⟩
 rw[<- Te]
 suffices J3:∀ st,SB kd a0 p lo x0 st->DS κ (arrOf st) lo t->wpS (model prog w) A E s (j3 ()) Q st by
  split
  ·have tG:∀ k,lo+t-(q+1)<=k->k<lo+t->kA κ (arrOf az) k=kA κ (arrOf az) (lo+t-1):=fun k b1 b2=>by
    have:=he (k-lo) (by omega) (by omega);rwa [show lo+(k-lo)=k by omega]at this
   refine LP (akQ (J3 _ (hB.set (mirror_perm _ _ _ _) fun i hi=>wC hsz i (by omega)) fun i j dZ hj=>?_));show κ.kle (kA κ (mirror (arrOf az) _ _ _) _) (kA κ (mirror (arrOf az) _ _ _) _);rw[uq hsz tG,uq hsz tG];exact hd i j dZ hj
  ·exact J3 _ hB hd
 clear hB hd he hsz;intro st hB hd;rw[Te]
 (try dsimp -zeta only)
 have hsz:lo+t<=(arrOf st).size:=by rw[hB.size];omega
 refine LP (akQ ?_);have pY:SB kd a0 p lo x0 (setArr st (mirror (arrOf st) lo (lo+t) ((lo+t-lo) / 2))):=hB.set (mirror_perm _ _ _ _) fun i hi=>wC hsz i hi
 refine LP (wpS_mono (O1 C k0 pY t1 t2 hr (fun i j dZ hj=>?_) _ fun x n Q h1 h2 q1 q2=>?_) ?_)
 ·show κ.kle (kA κ (mirror (arrOf st) _ _ _) _) (kA κ (mirror (arrOf st) _ _ _) _);rw[BJ hsz,BJ hsz,lp (by omega),lp (by omega)];have:=hd (t-1-j) (t-1-i) (by omega) (by omega);rwa [show lo+(t-1-i)=lo+(lo+t)-1-(lo+i) by omega,show lo+(t-1-j)=lo+(lo+t)-1-(lo+j) by omega]at this
 ·(with_reducible conv=>arg 5;whnf)
  refine LP (sj C k0 pY (by omega) (by omega) ?_)
  (try dsimp -zeta only)
  cases e : κ.blt (kA κ (arrOf (setArr st (mirror (arrOf st) lo (lo+t) ((lo+t-lo) / 2)))) (lo+n)) (kA κ (arrOf (setArr st (mirror (arrOf st) lo (lo+t) ((lo+t-lo) / 2)))) (lo+n-1))with
  |true=>rw[lp rfl];exact ON (q1 e)
  |false=>rw[mf (by decide)];(with_reducible conv=>arg 5;whnf);exact ON (q2 e)
 ·rintro c az ⟨rfl,m,rfl,b1,b2,hs,_⟩
  (with_reducible conv=>arg 5;whnf)
  (try dsimp -zeta only)
  exact ON (h m _ pY (by omega) b2 hs)
end
section
variable {prog:Program}{w:World}{A:Around}{E:Value->Shared->Prop}{s:Shared}{kd:SortKind}{κ:KeyKind}{a0 x0:Array Keyed}{p:Array (Nat×Nat×Nat)}{lo:Nat}
theorem abd (C:tE prog w A E s kd κ)(k0:Kd κ a0.toList){st:SortSt}(hB:SB kd a0 p lo x0 st){n ok:Nat}{Q:Bool->SortSt->Prop}(hn:lo+n<=a0.size)(aA:ok<=n)(hs:SS κ (arrOf st) lo ok)(h:∀ az,SB kd a0 p lo x0 az->SS κ (arrOf az) lo n->Q true az):wpS (model prog w) A E s (binarySort' lo n ok) Q st:=by
 refine LP (wpS_mono (aj6 (I:=fun t c az=>c=(none,())/\SB kd a0 p lo x0 az/\SS κ (arrOf az) lo (min t n))
  (Q:=fun c az=>c=(none,())/\SB kd a0 p lo x0 az/\SS κ (arrOf az) lo n) ?_ ?_ ⟨rfl,hB,fun i j dZ hj=>?_⟩) ?_)
 ·rintro t c az t1 t2 ⟨rfl,hB,hs⟩;rw[show min t n=t by omega]at hs
  (with_reducible conv=>arg 5;whnf)
  refine LP (wpS_mono (aj6 (I:=fun x c bb=>bb=az/\∃ l r,c=(none,l,r)/\l<=r/\r<=t/\r-l<=t-x/\(∀ i,i<l->κ.kle (kA κ (arrOf az) (lo+i)) (kA κ (arrOf az) (lo+t)))/\(∀ i,r<=i->i<t->κ.klt (kA κ (arrOf az) (lo+t)) (kA κ (arrOf az) (lo+i))))
   (Q:=fun c bb=>bb=az/\∃ l,c=(none,l,l)/\l<=t/\(∀ i,i<l->κ.kle (kA κ (arrOf az) (lo+i)) (kA κ (arrOf az) (lo+t)))/\(∀ i,l<=i->i<t->κ.klt (kA κ (arrOf az) (lo+t)) (kA κ (arrOf az) (lo+i)))) ?_ ?_ ⟨rfl,0,t,rfl,by omega,by omega,by omega,fun i z=>by omega,fun i z1 z2=>by omega⟩) ?_)
  ·rintro x c bb _ hx ⟨rfl,l,r,rfl,a1,a2,a3,a4,a5⟩
   (with_reducible conv=>arg 5;whnf)
   (try dsimp -zeta only)
   by_cases hg:l >= r
   ·rw[lp hg];have:l=r:=by omega
    subst this;exact ON ⟨rfl,l,rfl,a2,a4,a5⟩
   ·rw[mf hg]
    (with_reducible conv=>arg 5;whnf)
    refine LP (sj C k0 hB (by omega) (by omega) ?_)
    (try dsimp -zeta only)
    cases e : κ.blt (kA κ (arrOf bb) (lo+t)) (kA κ (arrOf bb) (lo+(l+r) / 2))with
    |true =>
     rw[lp rfl]
     (with_reducible conv=>arg 5;whnf)
     exact ON ⟨rfl,l,(l+r) / 2,rfl,by omega,by omega,by omega,a4,fun i z1 z2=>KeyOrd.klt_of_klt_of_kle e (hs _ _ z1 z2)⟩
    |false =>
     rw[mf (by decide)]
     (with_reducible conv=>arg 5;whnf)
     exact ON ⟨rfl,(l+r) / 2+1,r,rfl,by omega,by omega,by omega,fun i z=>akf (hs i ((l+r) / 2) (by omega) (by omega)) e,a5⟩
  ·rintro c bb ⟨rfl,l,r,rfl,a1,a2,a3,a4,a5⟩;have:l=r:=by omega
   subst this;exact⟨rfl,l,rfl,a2,a4,a5⟩
  ·rintro c bb ⟨rfl,l,rfl,a2,a4,a5⟩
   (with_reducible conv=>arg 5;whnf)
   (try dsimp -zeta only)
   have hsz:lo+t<(arrOf bb).size:=by rw[hB.size];omega
   refine LP (akQ (ON ⟨rfl,hB.set (bubble_perm _ _ _) fun i hi=>W4 hsz (by omega) i (by omega),?_⟩));rw[show min (t+1) n=t+1 by omega];intro i j dZ hj;show κ.kle (kA κ (bubble (arrOf bb) (lo+t) (lo+t-(lo+l))) _) (kA κ (bubble (arrOf bb) (lo+t) (lo+t-(lo+l))) _);rw[Mg hsz (by omega),Mg hsz (by omega),show lo+t-(lo+t-(lo+l))=lo+l by omega]
   repeat' split
   all_goals first
    |(exfalso;omega)
    |exact OP _
    |exact a4 _ (by omega)
    |exact hs _ _ (by omega) (by omega)
    |(have z:=a5 (j-1) (by omega) (by omega);rw[show lo+(j-1)=lo+j-1 by omega]at z;exact ajZ z)
    |(have z:=hs (i-1) (j-1) (by omega) (by omega);rw[show lo+(i-1)=lo+i-1 by omega,show lo+(j-1)=lo+j-1 by omega]at z;exact z)
    |(have z:=hs i (j-1) (by omega) (by omega);rw[show lo+(j-1)=lo+j-1 by omega]at z;exact z)
 ·rintro c az ⟨rfl,hB,hs⟩;rw[show min (max (max ok 1) n) n=n by omega]at hs;exact⟨rfl,hB,hs⟩
 ·by_cases e:ok=0
  ·have:i=j:=by omega
   subst this;exact OP _
  ·exact hs i j dZ (by omega)
 ·rintro c az ⟨rfl,hB,hs⟩
  (with_reducible conv=>arg 5;whnf)
  (try dsimp -zeta only)
  exact ON (h az hB hs)
end
def lexLt:LI->LI->Bool
 |[],[] => false
 |[],_::_=>true
 |_::_,[] => false
 |x::xs,y::ys=>if x=y then lexLt xs ys else decide (x<y)
theorem CP:∀ a,lexLt a a=false
 |[] => rfl
 |x::xs=>by unfold lexLt;rw[lp rfl];exact CP xs
theorem DB:∀ a b c,lexLt a b=true->lexLt b c=true->lexLt a c=true
 |[],[],_,h,_=>by cases h
 |[],_::_,[],_,h=>by cases h
 |[],_::_,_::_,_,_=>rfl
 |_::_,[],_,h,_=>by cases h
 |_::_,_::_,[],_,h=>by cases h
 |x::xs,y::ys,z::zs,h1,h2=>by
  unfold lexLt at h1 h2 ⊢;by_cases e1:x=y
  ·subst e1;rw[lp rfl]at h1;by_cases e2:x=z
   ·subst e2;rw[lp rfl]at h2 ⊢;exact DB xs ys zs h1 h2
   ·rw[mf e2]at h2 ⊢;exact h2
  ·rw[mf e1]at h1;have:=Cn h1;by_cases e2:y=z
   ·subst e2;rw[mf e1];exact h1
   ·rw[mf e2]at h2;have:=Cn h2;rw[mf (by omega)];exact u4 (by omega)
theorem DC:∀ a b c,lexLt a c=true->lexLt a b=true\/lexLt b c=true
 |[],[],c,h=>.inr h
 |[],_::_,_,_=>.inl rfl
 |_::_,_,[],h=>by cases h
 |_::_,[],_::_,_=>.inr rfl
 |x::xs,y::ys,z::zs,h=>by
  unfold lexLt at h ⊢;by_cases e1:x=y
  ·subst e1;rw[lp rfl];by_cases e2:x=z
   ·subst e2;rw[lp rfl]at h ⊢;exact DC xs ys zs h
   ·rw[mf e2]at h ⊢;exact .inr h
  ·rw[mf e1];by_cases e2:x=z
   ·subst e2;rw[mf (fun z=>e1 z.symm)];rcases aji x y with q | q
    ·exact .inl (u4 q)
    ·exact .inr (u4 (by omega))
   ·rw[mf e2]at h;have:=Cn h;rcases aji x y with q | q
    ·exact .inl (u4 q)
    ·refine .inr ?_;rw[mf (by omega)];exact u4 (by omega)
theorem CQ:∀ a b,lexLt a b=false->lexLt b a=false->a=b
 |[],[],_,_=>rfl
 |[],_::_,h,_=>by cases h
 |_::_,[],_,h=>by cases h
 |x::xs,y::ys,h1,h2=>by
  unfold lexLt at h1 h2;by_cases e1:x=y
  ·subst e1;rw[lp rfl]at h1 h2;rw[CQ xs ys h1 h2]
  ·rw[mf e1]at h1;rw[mf (fun z=>e1 z.symm)]at h2;have:=ajO h1;have:=ajO h2;omega
def intsOf:List Value->Option (LI)
 |[] => some []
 | .int n _::r=>(intsOf r).map (n :: ·)
 |_::_=>none
def fM (h:Heap):Value->Option (LI)
 | .ref t=>match h.get? t with
  |some ⟨.type "tuple",_,.seq vs _,_⟩=>intsOf vs.toList
  |_=>none
 |_=>none
def ku (h:Heap):KeyKind:={ α:=LI,blt:=lexLt,irrefl:=CP,trans:=DB,negTrans:=DC,total:=CQ,keyOf:=fM h,dflt:=[] }
theorem ints_of {vs:List Value}{ns:LI}(h:IntsAre vs ns):intsOf vs=some ns:=by
 induction h with
 |nil=>rfl
 |cons n t _ ih=>show(intsOf _).map _=_;rw[ih];rfl
theorem N3:∀ {vs:List Value} {ns:LI},intsOf vs=some ns->IntsAre vs ns
 |[],_,h=>by cases h;exact .nil
 | .int n t::r,_,h=>by
  have h':(intsOf r).map (n :: ·)=some _:=h;cases e:intsOf r with
  |none=>rw[e]at h';cases h'
  |some ms=>rw[e]at h';cases h';exact .cons n t (N3 e)
 | .none::_,_,h=>by cases h
 | .ellipsis::_,_,h=>by cases h
 | .notImplemented::_,_,h=>by cases h
 | .bool _::_,_,h=>by cases h
 | .float _ _::_,_,h=>by cases h
 | .str _ _::_,_,h=>by cases h
 | .bytes _ _::_,_,h=>by cases h
 | .type _::_,_,h=>by cases h
 | .builtin _::_,_,h=>by cases h
 | .ref _::_,_,h=>by cases h
theorem m9 {h:Heap}{t:Addr}{ws:List Value}{ns:LI}(p:IsTup h t ws.toArray)(q:IntsAre ws ns):fM h (.ref t)=some ns:=by
 obtain⟨⟨c,d,dt,sl⟩,ho,hc,n,hd⟩:=p;simp only at hc hd;subst hc hd;show(match h.get? t with | some ⟨.type "tuple",_,.seq vs _,_⟩=>intsOf vs.toList | _=>none)=_;rw[ho];exact ints_of q
theorem yh {h:Heap}{v:Value}{ns:LI}(e:fM h v=some ns):∃ t ws,v=.ref t/\IsTup h t ws.toArray/\IntsAre ws ns:=by
 unfold fM at e;split at e
 next t =>
  split at e
  next o d vs n sl ho=>exact⟨t,vs.toList,rfl,⟨_,ho,rfl,n,by rw[aab]⟩,N3 e⟩
  next=>cases e
 next=>cases e
section
variable {prog:Program}{w:World}{A:Around}{E:Value->Shared->Prop}{s:Shared}
theorem BK {t:Addr}{ws:Array Value}{Q:Array Value->Shared->Prop}(p:IsTup s.heap t ws)(h:Q ws s):wpAny (model prog w) A (Builtin.List.listItems (.ref t)) Q E s:=by
 obtain⟨o,ho,hc,n,hd⟩:=p;exact listItems_at ho hd h
theorem ZM {a b:Int}{t u:Tok}{Q:Bool->Shared->Prop}(h:Q (decide (a<b)) s):wpAny (model prog w) A (oneLt' false (.int a t) (.int b u)) Q E s:=by
 rw[oneLt'_eq];simp only[YO,akU];refine ff ?_;exact wpAny_lt_int (NL h)
theorem ZN {a b:Int}{t u:Tok}{c:Bool}{Q:Bool->Shared->Prop}(h:Q (decide (a<b)) s):wpAny (model prog w) A (oneLt' c (.int a t) (.int b u)) Q E s:=by
 cases c with
 |true=>exact oneLt_int h
 |false=>exact ZM h
theorem N4 {g:((Value×Value)×Nat)->(Option Bool×Unit)->Sem (ForInStep (Option Bool×Unit))}(hg:∀ (m n:Int) (t t':Tok) (i:Nat) (Q:ForInStep (Option Bool×Unit)->Shared->Prop),(m ≠ n->Q (.done (some (decide (m<n)),())) s)->(m=n->Q (.yield (none,())) s)->wpAny (model prog w) A (g ((.int m t,.int n t'),i) (none,())) Q E s) :
  ∀ {us vs:List Value} {ms ns:LI},IntsAre us ms->IntsAre vs ns->∀ (k:Nat) (Q:Option Bool×Unit->Shared->Prop),(lexLt ms ns=decide (us.length<vs.length)->Q (none,()) s)->Q (some (lexLt ms ns),()) s ->
   wpAny (model prog w) A (forIn ((us.zip vs).zipIdx k) ((none,()):Option Bool×Unit) g) Q E s
 |[],[],_,_,.nil,.nil,k,Q,h,_=>xp (h rfl)
 |[],_::_,_,_,.nil,.cons n t hr,k,Q,h,_=>xp (h (by rw[u4 (by simp)];rfl))
 |_::_,[],_,_,.cons n t hr,.nil,k,Q,h,_=>xp (h (by rw[tw (by simp)];rfl))
 |_::us,_::vs,_,_,.cons m t hu,.cons n t' hv,k,Q,h,h2=>by
  rw[akC,List.zipIdx_cons,ak2];unfold lexLt at h h2;refine ff (hg m n t t' k _ (fun e=>?_) (fun e=>?_))
  ·rw[mf e]at h2;exact xp h2
  ·rw[lp e]at h h2;exact N4 hg hu hv (k+1) Q (fun z=>h (by rw[z];simp)) h2
theorem YB:tE prog w A E s (tuples' true) (ku s.heap) where
 lt st x y Q hk k1 k2 h:=by
  obtain⟨ms,e1⟩:=ajD.mp k1;obtain⟨ns,e2⟩:=ajD.mp k2;have f1:kf (ku s.heap) x=ms:=by unfold kf;rw[e1];rfl
  have f2:kf (ku s.heap) y=ns:=by unfold kf;rw[e2];rfl
  rw[f1,f2]at h;obtain⟨t,us,ex,px,ix⟩:=yh e1;obtain⟨t',vs,ey,py,iy⟩:=yh e2;rw[lt'_eq];refine LP (wpS_get ?_);rw[hk,ex,ey];refine LP (wpS_lift (wpAny_attempt ?_));refine ff (BK px (ff (BK py ?_)));refine ff (N4 (fun m n t t' i Q q1 q2=>?_) ix iy 0 _ (fun e=>?_) ?_)
  ·refine ff (wpAny_eqBool_int ?_);by_cases e:m=n
   ·rw[show(m==n)=true by simpa using e];exact xp (q2 e)
   ·rw[show(m==n)=false by simpa using e];exact ff (ZN (xp (q1 e)))
  ·show wpAny _ _ (pure (decide (us.toArray.size<vs.toArray.size))) _ _ _;refine xp ⟨rfl,ON ?_⟩;rw[uu,uu,<- e];exact h
  ·exact xp ⟨rfl,ON h⟩
theorem O5:∀ {vs:List Value},(∀ v ∈ vs,∃ n ns,fM s.heap v=some (n::ns))->∀ Q:List (Option Value)->Shared->Prop,(∀ fs:List (Int×Tok),fs.length=vs.length->Q (fs.map fun p=>some (.int p.1 p.2)) s) ->
  wpAny (model prog w) A (vs.mapM firstOfTuple') Q E s
 |[],_,Q,h=>by rw[List.mapM_nil];exact xp (h [] rfl)
 |v::vs,hv,Q,h=>by
  obtain⟨n,ns,e⟩:=hv v (.head _);obtain⟨t,ws,rfl,pt,it⟩:=yh e;cases it with
  |cons _ tk it =>
   rw[List.mapM_cons];refine ff ?_;obtain⟨o,ho,hc,m,hd⟩:=id pt;refine ff (wpAny_typeOf (T := "tuple") ⟨o,ho,hc⟩ ?_);rw[mf (by decide)];refine ff (BK pt (xp ?_));refine ff (O5 (fun v vS=>hv v (.tail _ vS)) _ fun fs hf=>xp ?_);exact h ((n,tk)::fs) (by rw[AN,AN,hf])
theorem Mh:∀ (fs:List (Int×Tok)),(fs.map fun p=>Value.int p.1 p.2).mapM typeOf=pure (fs.map fun _=>Value.type "int")
 |[] => by simp
 |p::fs=>by
  rw[i8,List.mapM_cons,Mh fs];show(pure (Value.type "int") >>= fun b=>pure _ >>= fun bs=>pure (b::bs))=_;simp
theorem XO {vs:List Value}{Q:SortKind->Shared->Prop}(hv:∀ v ∈ vs,∃ n ns,fM s.heap v=some (n::ns))(ne:vs ≠ [])(h:Q (tuples' true) s):wpAny (model prog w) A (keyKind' vs.toArray) Q E s:=by
 rw[keyKind'_eq,List.mapM_toArray];refine ff ?_;rw[map_eq_pure_bind];refine ff (O5 hv _ fun fs hf=>xp ?_);rw[lp (by simp)];refine ff (wpAny_rule ?_);have e1:((fs.map fun p=>some (Value.int p.1 p.2)).toArray.filterMap id)=(fs.map fun p=>Value.int p.1 p.2).toArray:=by
  simp[List.filterMap_map]
 rw[e1,oneTypeOnly'_eq,List.mapM_toArray,Mh];simp only[map_pure,pure_bind];have h0:(fs.map fun _=>Value.type "int").toArray[0]?=some (Value.type "int"):=by
  cases fs with
  |nil =>
   cases vs with
   |nil=>exact absurd rfl ne
   |cons _ _=>cases hf
  |cons p fs=>simp
 have E2:((fs.map fun _=>Value.type "int").toArray.all fun x=>x==Value.type "int")=true:=by
  simp only[List.all_toArray,ak1,LM];intro _ _
  rfl
 rw[h0];simp only[E2,if_true,pure_bind];exact xp h
end
def sU (h:Heap)(v:Value):LI:=(fM h v).getD []
def vf (h:Heap)(l:List Value):Prop:=l.Pairwise fun x y=>lexLt (sU h y) (sU h x)=false
section
variable {prog:Program}{w:World}{A:Around}{E:Value->Shared->Prop}{s:Shared}
theorem MR {h h':Heap}{v:Value}{ns:LI}(e:fM h v=some ns)(k:∀ t o,v=.ref t->h.get? t=some o->o.cls=.type "tuple" -> h'.get? t=some o):fM h' v=some ns:=by
 obtain⟨t,ws,rfl,⟨o,ho,hc,n,hd⟩,it⟩:=yh e;exact m9 ⟨o,k t o rfl ho hc,hc,n,hd⟩ it
theorem mem_zip_self {α:Type}:∀ {l:List α} {p : α×α},p ∈ l.zip l->p.1=p.2/\p.1 ∈ l
 |x::l,p,h=>by
  rw[akC]at h;rcases gr.mp h with rfl | z
  ·exact⟨rfl,.head _⟩
  ·have:=mem_zip_self z;exact⟨this.1,.tail _ this.2⟩
theorem N5 {α:Type}:∀ l:List α,(l.zip l).map Prod.snd=l
 |[] => rfl
 |x::l=>by rw[akC,i8,N5 l]
theorem Mi {vs:List Value}{xs:Array Keyed}{h:Heap}(hp:xs.Perm (pairsOf vs))(hs:∀ i j,i<=j->j<(pairsOf vs).size->(ku h).kle (kA (ku h) xs i) (kA (ku h) xs j)) :
  (xs.map (·.2)).toList.Perm vs/\vf h (xs.map (·.2)).toList:=by
 have hl:xs.toList.Perm (vs.zip vs):=by
  have:=aks.mp hp;unfold pairsOf at this;rwa [Array.toList_zip]at this
 refine⟨?_,?_⟩
 ·rw[Array.toList_map];have:=hl.map Prod.snd;rwa [N5]at this
 ·unfold vf;rw[Array.toList_map,ai2,List.pairwise_iff_getElem];intro i j hi hj dZ;have lh:j<(pairsOf vs).size:=by rw[<- hp.size_eq];rw[WI]at hj;exact hj
  have:=hs i j (by omega) lh;have gt:∀ c (hc:c<xs.toList.length),kA (ku h) xs c=sU h (xs.toList[c]).2:=fun c hc=>by
   have e:xs[c]?=some (xs.toList[c]):=by rw[<- PM,ab hc]
   rw[Eh e];have:=(mem_zip_self (hl.mem_iff.mp (MW hc))).1;unfold kf sU;rw[<- this]
   rfl
  rw[gt i hi,gt j hj]at this;exact this
end
def i7 (h:Heap)(d:Addr)(ks:List Addr)(ep:Nat):Prop:=∃ o es,h.get? d=some o/\o.ExactDict/\o.data=.dict es ep/\es.toList.map (·.key)=ks.map Value.ref
theorem i7.at' {h h':Heap}{d:Addr}{ks:List Addr}{ep:Nat}(x:i7 h d ks ep)(e:∀ o,h.get? d=some o->h'.get? d=some o):i7 h' d ks ep:=let ⟨o,es,ho,r⟩:=x;⟨o,es,e o ho,r⟩
theorem i7.lt {h:Heap}{d:Addr}{ks:List Addr}{ep:Nat}(x:i7 h d ks ep):d<h.objs.size:=let ⟨_,_,ho,_⟩:=x;xy ho
theorem i7.ty {s:Shared}{d:Addr}{ks:List Addr}{ep:Nat}(x:i7 s.heap d ks ep):s.TypeIs (.ref d) "dict" := let ⟨o,_,ho,hc,_⟩:=x;⟨o,ho,hc.1⟩
theorem Cj {es:Array DictEntry}{ks:List Addr}(h:es.toList.map (·.key)=ks.map Value.ref):es.size=ks.length:=by
 have:=congrArg List.length h;rwa [aa,aa,WI]at this
theorem ZO {es:Array DictEntry}{ks:List Addr}(h:es.toList.map (·.key)=ks.map Value.ref){i:Nat}{a:Addr}(ha:ks[i]?=some a)(hi:i<es.size):es[i].key=.ref a:=by
 have:=congrArg (fun l=>l[i]?) h;simp only[ee,ha,PM,aaa hi,Option.map_some]at this;exact xw this
section
variable {prog:Program}{w:World}{A:Around}{E:Value->Shared->Prop}{s:Shared}{d it:Addr}{ks:List Addr}{ep i:Nat}
theorem YC {Q:Value->Shared->Prop}(lo:(d==sysModules)=false)(hm:i7 s.heap d ks ep)(hQ:Q (.ref s.heap.objs.size) { s with heap:=s.heap.push { cls:=.type "dict_keyiterator",data:=.fields #[.ref d,.int 0 0,.int ks.length 0,.int ep 0] } }) :
  wpAny (model prog w) A (pyIter (.ref d)) Q E s:=by
 obtain⟨o,es,ho,hc,Q1,hk⟩:=id hm;have hT:=hm.ty;have hsz:=Cj hk;refine wpAny_pyIter_slot hT F.slot_dict_iter (ajy F.slot_dict_iter hT F.entry_dict_iter ?_ (F.args_dict_iter_1 _));unfold Builtin.«dict.__iter__»;refine ff ?_;unfold Builtin.Dict.dictSlotNone;refine ff (wpAny_notOrdered_dict hT ?_);show wpAny _ _ (pure (Value.ref d)) _ _ s;refine xp ?_;show wpAny _ _ (Builtin.Dict.showsAll d >>= _) _ _ s;unfold Builtin.Dict.showsAll;rw[mf (by rw[lo];exact AE)];refine ff (xp (ff (akR ho Q1 (ff (wpAny_dictEpoch ho Q1 ?_)))));refine ff (abc (xp ⟨_,rfl, "dict_keyiterator",_,⟨_,EO _ rfl,rfl⟩,Of.lookup,?_⟩));simpa [rawInt,hsz]using hQ
theorem YD {a:Addr}{Q:Option Value->Shared->Prop}(hit:s.heap.IsKeyIter it d i ks.length ep)(hm:i7 s.heap d ks ep)(hx:ks[i]?=some a)(hQ:∀ h',h'.IsKeyIter it d (i+1) ks.length ep->Heap.SameBut it s.heap h'->Q (some (.ref a)) { s with heap:=h' }):wpAny (model prog w) A (pyNext (.ref it)) Q E s:=by
 obtain⟨o,ho,hc,hd⟩:=id hit;obtain⟨od,es,vV,gC,pZ,hk⟩:=id hm;have hsz:=Cj hk;have aT:i<ks.length:=(ir.mp hx).1;have Q2:i<es.size:=by rw[hsz];exact aT
 have EZ:=ZO hk hx Q2;unfold pyNext;refine ff (wpAny_attempt (wpAny_callSpecial?_slot (name:=Str.ofString "__next__") hit.typeIs Of (ajy Of hit.typeIs F.entry_dict_keyiterator_next ?_ (F.args_dict_keyiterator_next_1 _))));refine ff (xp (ff (ff ?_)))
 first | refine ff (SO hit.typeIs (xp (ff (akK ho hd ?_)))) | refine ff (ai3 hit.typeIs (xp (ff (akK ho hd ?_))))
 have own:Builtin.Dict_items.ownsTuple "dict_keyiterator" = false:=by decide
 simp only[own,YO,akU];show wpAny _ _ (if(Value.ref d==Value.none)=true then _ else _) _ _ s;rw[mf (show ¬ ((Value.ref d==Value.none)=true)from AE)];refine ff (xp (ff (akR vV pZ ?_)));rw[mf (by rw[hsz];simp)];refine ff (xp (ff (wpAny_dictEpoch vV pZ ?_)));rw[mf (by simp)];refine xp ?_;simp only[show ¬ ((i:Int)<0)from by omega,akU,zw,aaa Q2];refine ff ?_
 first | refine ff (SO hit.typeIs (xp (ff (aj7 hit.typeIs ?_)))) | refine ff (ai3 hit.typeIs (xp (ff (aj7 hit.typeIs ?_))))
 show wpAny _ _ (setField (.ref it) 1 (rawInt ((i:Int)+1)) >>= _) _ _ s;refine ff (wpAny_setField ho hd (by simp) ?_);have yV:(s.heap.update it (Obj.mapFields (·.setIfInBounds 1 (rawInt ((i:Int)+1))))).IsKeyIter it d (i+1) ks.length ep:=⟨_,Heap.get?_update_self _ ho (Obj.isFreed_of_fields (Obj.data_mapFields hd _)),(Obj.cls_mapFields ..).trans hc,by rw[Obj.data_mapFields hd];simp[rawInt]⟩
 refine ff (ajm (ff (aj7 (s:={ s with heap:=s.heap.update it (Obj.mapFields (·.setIfInBounds 1 (rawInt ((i:Int)+1)))) }) yV.typeIs ?_)));show wpAny _ _ (pure es[i].key) _ _ _;rw[EZ];exact xp (xp ⟨_,rfl,xp (hQ _ yV (akp ..))⟩)
theorem ZP {Q:Option Value->Shared->Prop}(hh:A.handled=none)(hit:s.heap.IsKeyIter it d i ks.length ep)(hm:i7 s.heap d ks ep)(hx:ks[i]?=none)(hQ:∀ h',Heap.ExtBut it s.heap h'->Q none { s with heap:=h' }):wpAny (model prog w) A (pyNext (.ref it)) Q E s:=by
 obtain⟨o,ho,hc,hd⟩:=id hit;obtain⟨od,es,vV,gC,pZ,hk⟩:=id hm;have hsz:=Cj hk;have hge:es.size<=i:=by rw[hsz];simpa using hx
 unfold pyNext;refine ff (wpAny_attempt (wpAny_callSpecial?_slot (name:=Str.ofString "__next__") hit.typeIs Of (ajy Of hit.typeIs F.entry_dict_keyiterator_next ?_ (F.args_dict_keyiterator_next_1 _))));refine ff (xp (ff (ff ?_)))
 first | refine ff (SO hit.typeIs (xp (ff (akK ho hd ?_)))) | refine ff (ai3 hit.typeIs (xp (ff (akK ho hd ?_))))
 have own:Builtin.Dict_items.ownsTuple "dict_keyiterator" = false:=by decide
 simp only[own,YO,akU];show wpAny _ _ (if(Value.ref d==Value.none)=true then _ else _) _ _ s;rw[mf (show ¬ ((Value.ref d==Value.none)=true)from AE)];refine ff (xp (ff (akR vV pZ ?_)));rw[mf (by rw[hsz];simp)];refine ff (xp (ff (wpAny_dictEpoch vV pZ ?_)));rw[mf (by simp)];refine xp ?_;simp only[show ¬ ((i:Int)<0)from by omega,akU,zw,Array.getElem?_eq_none hge];refine ff ?_
 first | refine ff (SO hit.typeIs (xp ?_)) | refine ff (ai3 hit.typeIs (xp ?_))
 show wpAny _ _ (setField (.ref it) 0 .none >>= _) _ _ s;refine ff (wpAny_setField ho hd (by simp) ?_);show wpAny _ _ (newExc (.type "StopIteration") [] >>= _) _ _ _;refine ff ?_;simp only[newExc,newTuple];refine ff (abc (ff (m:=firstArgMember _ _) (wpAny_of_eq (a:=Value.none) (by first | rfl | (simp only[firstArgMember];rfl)) (abc ?_ (by size_fits)))) (by size_fits));simp only[raiseNew];refine ff (wpAny_handled ?_);rw[show A.in1.handled=none from hh];refine ff (xp (wpAny_throw ?_));refine ff (wpAny_isInstance (T := "StopIteration") (b:=true) ⟨_,EO _ rfl,rfl⟩ isSubtype_stop ?_);exact xp (hQ _ (((akp ..).extBut.push _).push _))
theorem XQ (hh:A.handled=none)(I:Addr)(nR:d ≠ I):Walks prog w A I [I,d] [I] ks.length (fun i v=>∃ a,ks[i]?=some a/\v=.ref a) (fun i h=>h.IsKeyIter I d i ks.length ep/\i7 h d ks ep) where
 sub:=fun b hb=>by simp at hb;simp[hb]
 frame:=fun _ _ _ st hk=>⟨st.1.at fun o e=>hk I (by simp) o e,st.2.at' fun o e=>hk d (by simp) o e⟩
 item:=fun i s Q E hi st hQ=>by
  obtain⟨a,hx⟩:∃ a,ks[i]?=some a:=⟨ks[i],by simp[hi]⟩
  refine YD st.1 st.2 hx fun h' yV gI=>?_
  exact hQ _ h' s.toks ⟨a,hx,rfl⟩ ⟨yV,st.2.at' fun o e=>gI.extBut d o nR e⟩ fun b o hb e=>gI.extBut b o (fun h=>hb (by simp[h])) e
 done:=fun s Q E st hQ=>ZP hh st.1 st.2 (by simp) fun h' tG=>hQ h' s.toks fun b o hb e=>tG b o (fun h=>hb (by simp[h])) e
 self:=fun _ _ _ _ st hQ=>wpAny_pyIter_keyiter st.1 hQ
theorem ZQ (lo:(d==sysModules)=false):PySem.W.KdlSrc prog w "dict" d d ks.length (fun i v=>∃ a,ks[i]?=some a/\v=.ref a) (fun h=>i7 h d ks ep) where
 type:=fun _ hm=>hm.ty
 there:=fun _ hm=>⟨hm.lt,hm.lt⟩
 keep:=fun _ _ hm hk=>hm.at' fun o e=>hk d (.inl rfl) o e
 notList:=by decide
 notTuple:=by decide
 hint:=fun _ _ _ _ hm hq=>PySem.W.kdl_hint_dict hm.ty hq
 iter:=fun A s hh hm=>⟨_,_,(fun _ _ hq=>YC lo hm hq),XQ hh _ (Co hm.lt),⟨⟨_,EO _ rfl,rfl,rfl⟩,hm.at' fun o e=>Cc _ e⟩⟩
end
end So
namespace L2
open PySem PySem.Spec PyProof.Rows
def addrOf:Value->Addr
 | .ref a=>a
 |_=>0
theorem XR {l:List Value}{ks:List Addr}(h:l.Perm (ks.map Value.ref)):∃ as:List Addr,as.Perm ks/\l=as.map Value.ref:=by
 refine⟨l.map addrOf,?_,?_⟩
 ·have:=h.map addrOf;rw[gz]at this;rwa [show ks.map (addrOf ∘ Value.ref)=ks from(ma (g:=id) fun _ _=>rfl).trans (ak8 ks)]at this
 ·rw[gz];refine((ma (g:=id) fun v hv=>?_).trans (ak8 l)).symm;obtain⟨a,_,rfl⟩:=i4.mp (h.mem_iff.mp hv)
  rfl
theorem Mj:∀ as:List Addr,Vals (as.map V.ref) (as.map Value.ref)
 |[] => .nil
 |a::as=>.cons rfl (Mj as)
end L2
namespace So
open PySem PyProof.Rows
theorem YF {n:Nat}(h2 : 2<=n)(h:n<64):minRun' n n 0=n:=by
 obtain⟨f,rfl⟩:∃ f,n=f+1:=⟨n-1,by omega⟩
 rw[minRun'_succ,lp h,ak5]
section
variable {prog:Program}{w:World}{A:Around}{E:Value->Shared->Prop}{s:Shared}{kd:SortKind}{κ:KeyKind}{a0:Array Keyed}
structure Q3 (kd:SortKind) (κ:KeyKind) (a0:Array Keyed) (st:SortSt):Prop where
 perm:(arrOf st).Perm a0
 fail:failedOf st=none
 one:(pendingOf st).size=1
 srt:∀ i j,i<=j->j<a0.size->κ.kle (kA κ (arrOf st) i) (kA κ (arrOf st) j)
theorem XS (C:tE prog w A E s kd κ)(k0:Kd κ a0.toList){st:SortSt}(hB:SB kd a0 #[] 0 a0 st){Q:Unit->SortSt->Prop}(h2 : 2<=a0.size)(Tf:a0.size<64)(h:∀ az,(arrOf az).Perm a0->failedOf az=none->(∀ i j,i<=j->j<a0.size->κ.kle (kA κ (arrOf az) i) (kA κ (arrOf az) j))->Q () az):wpS (model prog w) A E s sortRuns' Q st:=by
 have m0:=YF h2 Tf;refine LP (wpS_get ?_);show wpS (model prog w) A E s (have size:=(arrOf st).size;have aiP:=minRun' size size 0;_) Q st;rw[hB.size]
 (with_reducible conv=>arg 5;whnf)
 obtain⟨mr,Tg⟩:∃ mr,minRun' a0.size a0.size 0=mr:=⟨_,rfl⟩
 rw[Tg]at m0;rw[show(sortPriv% PySem.Builtin.minRun) a0.size a0.size 0=mr from Tg];refine LP (wpS_mono (aj6 (I:=fun t c az=>(t=0/\c=(none,0)/\SB kd a0 #[] 0 a0 az) \/
   (t=1/\c=(none,a0.size)/\SB kd a0 #[(0,a0.size,0)] 0 a0 az/\SS κ (arrOf az) 0 a0.size))
  (Q:=fun c az=>c.1=none/\SB kd a0 #[(0,a0.size,0)] 0 a0 az/\SS κ (arrOf az) 0 a0.size) ?_ ?_ (.inl ⟨rfl,rfl,hB⟩)) ?_)
 ·rintro t c az _ ht (⟨rfl,rfl,hB⟩ | ⟨rfl,rfl,hB,s1⟩)
  ·(with_reducible conv=>arg 5;whnf)
   rw[mf (by show ¬ 0 >= a0.size;omega)];refine LP (abb C k0 hB (by show 1<=a0.size-0;omega) (by show 0+(a0.size-0)<=a0.size;omega) fun m bb pY r1 r2 hs=>?_)
   (try dsimp -zeta only)
   (rw[show m=id m from rfl];extract_lets +onlyGivenNames -merge -underBinder acW;subst acW;(try dsimp -zeta only[id]))
   extract_lets +onlyGivenNames -merge -underBinder Qi
   obtain⟨jp,vU⟩:∃ z,z=Qi:=⟨Qi,rfl⟩
   rw[<- vU]
   suffices J:∀ n bb,SB kd a0 #[] 0 a0 bb->1<=n->n<=a0.size->mr<=n->SS κ (arrOf bb) 0 n->wpS (model prog w) A E s (jp () n) _ bb by
    by_cases aT:m<mr
    ·rw[lp aT];refine LP (wpS_lift (wpAny_rule ⟨rfl,?_⟩))
     (with_reducible conv=>arg 5;whnf)
     rw[show min (a0.size-0) mr=mr by omega];refine LP (abd C k0 pY (by omega) (by omega) hs fun gE hB3 gT=>?_);rw[mf (by decide)]
     (with_reducible conv=>arg 5;whnf)
     exact J _ _ hB3 (by omega) (by omega) (br _) gT
    ·rw[mf aT];have r2':m<=a0.size-0:=r2;exact J _ _ pY r1 (by omega) (by omega) hs
   clear hB pY hs;intro n bb hB r1 r2 r3 hs;rw[vU]
   (try dsimp -zeta only)
   refine LP (wpS_get ?_)
   skip
   extract_lets +onlyGivenNames -merge -underBinder Qj
   obtain⟨jp2,Q4⟩:∃ z,z=Qj:=⟨Qj,rfl⟩
   rw[<- Q4];show wpS (model prog w) A E s (match(pendingOf bb).back? with | _=>_) _ bb;rw[show(pendingOf bb).back?=none by rw[hB.pend];rfl]
   (try dsimp -zeta only)
   rw[Q4]
   (try dsimp -zeta only)
   refine LP (akQ ?_)
   (with_reducible conv=>arg 5;whnf)
   have en:n=a0.size:=by omega
   subst en;refine ON (.inr ⟨rfl,by show(none,0+a0.size)=(none,a0.size);rw[akA],⟨hB.perm,hB.kind,hB.fail,?_,hB.low⟩,hs⟩);show(pendingOf bb).push _=_;rw[hB.pend];rfl
  ·(with_reducible conv=>arg 5;whnf)
   rw[lp (by exact br a0.size)];exact ON ⟨rfl,hB,s1⟩
 ·rintro c az (⟨z,_⟩ | ⟨z,_⟩)
  ·omega
  ·omega
 ·rintro c az ⟨e,hB,hs⟩;obtain⟨c1,c2⟩:=c;simp only at e;subst e
  (with_reducible conv=>arg 5;whnf)
  (try dsimp -zeta only)
  refine LP (wpS_mono (aj6 (I:=fun t c bb=>c=(none,())/\((t=0/\bb=az)\/(Q3 kd κ a0 bb)))
   (Q:=fun c bb=>c=(none,())/\Q3 kd κ a0 bb) ?_ ?_ ⟨rfl,.inl ⟨rfl,rfl⟩⟩) ?_)
  ·rintro t c bb _ ht ⟨rfl,z⟩
   (try dsimp -zeta only)
   refine LP (wpS_get ?_);show wpS (model prog w) A E s (have p:=pendingOf bb;_) _ bb;rcases z with⟨rfl,rfl⟩ | f
   ·have zS:(pendingOf bb).size=1:=by rw[hB.pend];rfl
    (with_reducible conv=>arg 5;whnf)
    rw[lp (by show(pendingOf bb).size<=1;omega)];exact ON ⟨rfl,⟨hB.perm,hB.fail,by rw[hB.pend];rfl,fun i j dZ hj=>by have:=hs i j dZ hj;rwa [akA,akA]at this⟩⟩
   ·(with_reducible conv=>arg 5;whnf)
    rw[lp (by show(pendingOf bb).size<=1;rw[f.one];decide)];exact ON ⟨rfl,f⟩
  ·rintro c bb ⟨rfl,z⟩;rcases z with⟨z,_⟩ | f
   ·omega
   ·exact⟨rfl,f⟩
  ·rintro c bb ⟨rfl,f⟩
   (with_reducible conv=>arg 5;whnf)
   (try dsimp -zeta only)
   exact ON (h bb f.perm f.fail f.srt)
end
section
variable {prog:Program}{w:World}{A:Around}{E:Value->Shared->Prop}{s:Shared}
theorem Vk {a:Addr}{vs:List Value}{n:Nat}{P:Fin->Shared->Prop}(ho:s.heap.get? a=some (seqObj "list" vs.toArray n))(hv:∀ v ∈ vs,∃ n ns,fM s.heap v=some (n::ns))(Tf:vs.length<64)(h:∀ out:Array Value,out.toList.Perm vs->vf s.heap out.toList->P (.done (.ret .none)) { s with heap:=sortedHeap s.heap a vs out }):wpAny (model prog w) A (Builtin.«list.sort» ⟨[.ref a],[]⟩) P E s:=by
 rw[list_sort_plain];have ha:a<s.heap.objs.size:=xy ho;refine ff (listItems_at ho rfl (ff (listUpdate_at ho rfl ?_)));obtain⟨e1,Th⟩:∃ e1,(s.heap.update a (Obj.mapSeq fun _=>#[])).get? a=some (seqObj "list" #[] e1):=⟨_,get?_update_seq ho (fun _=>#[])⟩
 refine ff (seqEpoch_at Th rfl (ff (wpAny_newTuple (ff (wpAny_newList (ajm ?_))))));obtain⟨hB,eB⟩:∃ hB,hB=((s.heap.update a (Obj.mapSeq fun _=>#[])).push (seqObj "tuple" vs.toArray 0)).push (seqObj "list" #[] 0):=⟨_,rfl⟩
 have zT:hB.get? a=some (seqObj "list" #[] e1):=by
  rw[eB,ai1 _ _ _ (by rw[size_push',akg];exact Co (aiY ha)),ai1 _ _ _ (by rw[akg];exact Co ha)];exact Th
 have keep:∀ t o,s.heap.get? t=some o->t ≠ a->hB.get? t=some o:=fun t o e ne=>by
  have lt:=xy e;rw[eB,ai1 _ _ _ (by rw[size_push',akg];exact Co (aiY lt)),ai1 _ _ _ (by rw[akg];exact Co lt),(akp ..).2 t ne];exact e
 have keys:∀ v ns,fM s.heap v=some ns->fM hB v=some ns:=fun v ns e=>MR e fun t o _ ht hc=>keep t o ht fun z=>by
  rw[z,ho]at ht;cases ht;exact absurd (Value.type.inj hc) (by decide)
 have fin:∀ out:Array Value,out.toList.Perm vs->vf hB out.toList->P (.done (.ret .none)) { s with heap:=sortedHeap s.heap a vs out }:=fun out hp hs=>by
  refine h out hp (hs.imp_of_mem fun {x y} hx hy z=>?_);obtain⟨n1,ns1,q1⟩:=hv x (hp.mem_iff.mp hx);obtain⟨n2,ns2,q2⟩:=hv y (hp.mem_iff.mp hy);unfold sU at z ⊢;rw[keys _ _ q1,keys _ _ q2]at z;rw[q1,q2];exact z
 have last:∀ out:Array Value,out.size<=1000->sortedHeap s.heap a vs out=hB.update a (Obj.mapSeq fun _=>out):=fun out _=>by rw[eB];rfl
 show wpAny (model prog w) A _ P E { s with heap:=((s.heap.update a (Obj.mapSeq fun _=>#[])).push (seqObj "tuple" vs.toArray 0)).push (seqObj "list" #[] 0) };rw[<- eB];have hsz:vs.toArray.size=vs.length:=by simp
 have line:sizeLine=16777216:=sizeLine_eq;dsimp only;by_cases h2:vs.toArray.size<2
 ·rw[lp h2,lp h2];refine ff (xp ?_);rw[StateT.run_pure];refine ff (xp ?_);dsimp only;have pp:(pairsOf vs).Perm (pairsOf vs):=Array.Perm.refl _;obtain⟨f1,f2⟩:=Mi (h:=hB) pp fun i j dZ hj=>by
   rw[akD]at hj;have:i=j:=by omega
   subst this;exact OP _
  have sz:((pairsOf vs).map (·.2)).size=vs.length:=by rw[Array.size_map,akD]
  refine ff (seqEpoch_at (s:={ s with heap:=hB }) zT rfl ?_);refine ff (listUpdate_at (s:={ s with heap:=hB }) zT rfl ?_ (hsz2:=by show((pairsOf vs).map (·.2)).size<=_;omega));simp only[bne_self_eq_false,YO,akU];have:=fin _ f1 f2;rw[last _ (by omega)]at this;exact xp this
 ·rw[mf h2,mf h2];refine ff (XO (s:={ s with heap:=hB }) (fun v vS=>?_) (fun z=>by rw[z]at h2;simp at h2) ?_)
  ·obtain⟨n,ns,e⟩:=hv v vS;exact⟨n,ns,keys _ _ e⟩
  have k0:Kd (ku hB) (pairsOf vs).toList:=fun x hx=>by
   unfold pairsOf at hx;rw[Array.toList_zip]at hx;obtain⟨n,ns,e⟩:=hv x.1 (mem_zip_self hx).2;show(fM hB x.1).isSome=true;rw[keys _ _ e];rfl
  have run:=XS (prog:=prog) (w:=w) (A:=A) (E:=E) (s:={ s with heap:=hB }) (a0:=pairsOf vs) YB k0 (st:=SortSt.mk' (tuples' true) (pairsOf vs) #[] 7 none) ⟨Array.Perm.refl _,rfl,rfl,rfl,fun _ z=>absurd z (ajg _)⟩
   (Q:=fun _ az=>(arrOf az).Perm (pairsOf vs)/\failedOf az=none/\∀ i j,i<=j->j<(pairsOf vs).size->(ku hB).kle (kA (ku hB) (arrOf az) i) (kA (ku hB) (arrOf az) j)) (by rw[akD];omega) (by rw[akD];omega) fun az p1 p2 p3=>⟨p1,p2,p3⟩
  refine ff (ajC run ?_ fun _ _ e=>e);rintro⟨⟨⟩,az⟩ s' ⟨rfl,hp,hf,hs⟩;dsimp only;obtain⟨f1,f2⟩:=Mi hp hs;have sz:((arrOf az).map (·.2)).size=vs.length:=by rw[Array.size_map,hp.size_eq,akD]
  refine ff (seqEpoch_at (s:={ s with heap:=hB }) zT rfl ?_);refine ff (listUpdate_at (s:={ s with heap:=hB }) zT rfl ?_ (hsz2:=by show((arrOf az).map (·.2)).size<=_;omega));rw[hf];simp only[bne_self_eq_false,YO,akU];have:=fin _ f1 f2;rw[last _ (by show((arrOf az).map (·.2)).size<=1000;omega)]at this;exact xp this
end
end So
namespace L2
open PySem PySem.Spec PyProof.Rows
def N6:List V->Hp->VK->Prop:=fun xs H Q=>∃ (p:Addr) (kvs:List (List Key×V)) (ds:LL),xs=[.ref p]/\H p=some (.dT kvs)/\kvs.map (·.1)=ds.map (fun d=>d.map Sum.inl)/\(∀ d ∈ ds,d ≠ [])/\ds.length<64 /\
  ∀ (l:Addr) (ps:List (Addr×LI)),H l=none->(∀ q ∈ ps,H q.1=some (.tup (q.2.map V.int)))->(ps.map (·.2)).Perm ds->(ps.map (·.2)).Pairwise (fun x y=>So.lexLt y x=false)->Q (.ref l) (upd H l (.lst (ps.map fun q=>.ref q.1)))
section
variable {X:Cx}
theorem VJ (hc:X.calm=true):eQ X (.builtin "sorted") N6:=by
 intro pins s σ H xs us Q I r h;obtain⟨p,kvs,ds,rfl,hp,hks,nR,hz,q⟩:=h;obtain⟨u,rfl,rx⟩:=vals1 r;cases rx;obtain⟨_,hS,xs,pr,o,es,ep,ho,gC,pZ,he,nd⟩:=(show cv X.prog X.w H s.heap p (.dT kvs)from I.aA p _ hp)
 have big : 1000<sizeLine:=by decide
 have keys:∀ {kvs:List (List Key×V)} {xs:List (List Key×Addr×Value)} {ds:LL},Paired (fun(p:List Key×V) (q:List Key×Addr×Value)=>p.1=q.1/\H q.2.1=some (.tup (p.1.map kV))/\RelV p.2 q.2.2) kvs xs->kvs.map (·.1)=ds.map (fun d=>d.map Sum.inl)->xs.length=ds.length/\∀ (i:Nat) (a:Addr) (d:LI),(xs.map (·.2.1))[i]?=some a->ds[i]?=some d->H a=some (.tup (d.map V.int)):=by
  intro kvs xs ds pr
  induction pr generalizing ds with
  |nil =>
   intro e;cases ds with
   |nil=>exact⟨rfl,fun i a d z=>by cases i<;>cases z⟩
   |cons _ _=>cases e
  | @cons pp qq ps qs hq t ih =>
   intro e;cases ds with
   |nil=>cases e
   |cons d ds =>
    rw[i8,i8]at e;obtain⟨e1,e2⟩:=List.cons.inj e;obtain⟨i1,i2⟩:=ih e2;refine⟨by rw[AN,AN,i1],fun i a d' h1 h2=>?_⟩;cases i with
    |zero =>
     cases h1
     cases h2
     have:=hq.2.1;rw[e1,gz]at this;exact this
    |succ i=>exact i2 i a d' h1 h2
 obtain⟨xl,GL⟩:=keys pr hks;obtain⟨ks,GN⟩:∃ ks,ks=xs.map (·.2.1):=⟨_,rfl⟩
 rw[<- GN]at GL;have kl:ks.length=ds.length:=by rw[GN,aa,xl]
 have tup:∀ a ns,H a=some (.tup (ns.map V.int))->So.fM s.heap (.ref a)=some ns:=fun a ns e=>by
  obtain⟨_,its,r,pt⟩:=(show cv X.prog X.w H s.heap a (.tup (ns.map V.int))from I.aA a _ e)
  exact So.m9 pt (intsAre_of r)
 have gV:So.i7 s.heap p ks ep:=⟨o,es,ho,gC,pZ,by rw[he,gz,GN,gz];rfl⟩
 refine Calls.call_function_entry kind_sorted plain_sorted entry_sorted (args_sorted1 _) ?_;unfold Builtin.«sorted»;refine ff (m:=checkCount "sorted" 1 1 _) (xp (ff (PySem.W.kdu_collect (A:=X.A.in1) (So.ZQ (ks:=ks) (ep:=ep) hS) (I.ok.hd hc) gV (by rw[kl];omega) fun h' tk acc hk fe=>?_)));have ea:acc.toList=ks.map Value.ref:=by
  refine IF fun i=>?_
  rw[PM,ee];rcases JJ i ks.length with hi | hi
  ·have Ti:i<acc.size:=by rw[fe.1];exact hi
   obtain⟨a,e1,e2⟩:=fe.2 i acc[i] (aaa Ti);rw[aaa Ti,e2,e1];rfl
  ·rw[nt hi,Array.getElem?_eq_none (by rw[fe.1];exact hi)];rfl
 have ha:acc.toList.length=ds.length:=by rw[ea,aa,kl]
 have known:∀ a ∈ ks,∃ d ∈ ds,H a=some (.tup (d.map V.int)):=fun a hm=>by
  obtain⟨i,hi,e⟩:=ai9 hm;have e':ks[i]?=some a:=by rw[ab hi,e]
  exact⟨ds[i]'(by omega),MW _,GL i a _ e' (ab (by omega))⟩
 refine ff (wpAny_newList ?_ (by rw[ha];omega));have mD:(h'.push (seqObj "list" acc.toList.toArray 0)).get? h'.objs.size=some (seqObj "list" acc.toList.toArray 0):=EO _ rfl;have Ei:∀ v ns,So.fM s.heap v=some ns->So.fM (h'.push (seqObj "list" acc.toList.toArray 0)) v=some ns:=fun v ns e=>So.MR e fun t o _ ht _=>Cc _ (hk t o ht)
 refine ff (ajm (ajy slot_list_sort ⟨_,mD,rfl⟩ entry_list_sort (So.Vk (s:={ s with heap:=h'.push (seqObj "list" acc.toList.toArray 0),toks:=tk }) mD (fun v hv=>?_) (by rw[ha];exact hz) fun out p1 p2=>⟨_,rfl,xp ⟨_,rfl,?_⟩⟩) (args_list_sort _)))
 ·rw[ea]at hv;obtain⟨a,hm,rfl⟩:=i4.mp hv;obtain⟨d,hd,e⟩:=known a hm;cases d with
  |nil=>exact absurd rfl (nR _ hd)
  |cons n ns=>exact⟨n,ns,Ei _ _ (tup a _ e)⟩
 ·rw[ea]at p1;obtain⟨as,pm,eo⟩:=XR p1;obtain⟨e,heL⟩:=sortedHeap_at (out:=out) mD;have I1:Inv X pins σ H { s with heap:=h',toks:=tk }:=I.kept (t':=tk) hk;obtain⟨kd,ekd⟩:∃ kd:Addr->LI,kd=fun a=>(So.fM s.heap (.ref a)).getD []:=⟨_,rfl⟩
  have zU:∀ a d,H a=some (.tup (d.map V.int))->kd a=d:=fun a d z=>by rw[ekd];show(So.fM s.heap (.ref a)).getD []=d;rw[tup a d z];rfl
  have ek:ks.map kd=ds:=by
   refine IF fun i=>?_
   rw[ee];rcases JJ i ks.length with hi | hi
   ·rw[ab hi,ab (show i<ds.length by omega)];show some (kd ks[i])=_;rw[zU _ _ (GL i _ _ (ab hi) (ab (by omega)))]
   ·rw[nt hi,nt (by omega)];rfl
  have sz:(as.map fun a=>(a,kd a)).map (fun q=>V.ref q.1)=as.map V.ref:=by rw[gz];rfl
  have s2:(as.map fun a=>(a,kd a)).map (·.2)=as.map kd:=by rw[gz];rfl
  have lt:as.length=ds.length:=by rw[pm.length_eq,kl]
  have fin:=q h'.objs.size (as.map fun a=>(a,kd a)) (I1.aA.fresh (br _)) (fun qq hq=>?_) (by rw[s2,<- ek];exact pm.map kd) ?_
  ·rw[sz]at fin;refine⟨.ref h'.objs.size,_,I1.laid (t':=tk) (o:=.lst (as.map V.ref)) (fun b o eb=>?_) (br _) ?_,rfl,fin⟩
   ·have lt:b<h'.objs.size:=xy eb;rw[sortedHeap_old (Co lt) (by rw[size_push'];exact aiY lt),ai1 _ _ _ (Co lt)];exact eb
   ·refine⟨by rw[aa,lt];omega,out.toList,e,?_,by rw[aab];exact heL⟩;rw[eo];exact Mj as
  ·obtain⟨a,hm,rfl⟩:=i4.mp hq;obtain⟨d,hd,z⟩:=known a (pm.mem_iff.mp hm);show H a=some (.tup ((kd a).map V.int));rw[zU a d z];exact z
  ·rw[s2,ai2];unfold So.vf at p2;rw[eo,ai2]at p2;refine p2.imp_of_mem fun {x y} hx hy z=>?_
   obtain⟨dx,_,zx⟩:=known x (pm.mem_iff.mp hx);obtain⟨dy,_,zy⟩:=known y (pm.mem_iff.mp hy);unfold So.sU at z;rw[Ei _ _ (tup x _ zx),Ei _ _ (tup y _ zy)]at z;rw[zU x dx zx,zU y dy zy];exact z
end
theorem MS {K:Frag}{G H:Hp}:∀ {ns:LI} {vs:List V} {fq:List Addr},aE K G H (ns.map fun n=>Tr.fz (di n)) vs fq->vs=ns.map V.int/\fq=[]
 |[],vs,fq,h=>h
 |n::ns,vs,fq,h=>by
  obtain⟨v,r,f1,f2,rfl,rfl,⟨rfl,h1⟩,h2⟩:=h;obtain⟨rfl,rfl⟩:=MS h2;rw[aO h1];exact⟨rfl,rfl⟩
section
variable {ι:Type}{F:bc ι}{e:Expr}{ρ:En}{ta:Tr}{pos:Pos}
theorem YG {xs:List Dv}(hm:F.mg "tuple" = none)(ha:Ev F e ρ ta)(ea:er ta=.lst xs){p':Pos}(hg:∀ i,Gl (F.cx i) "tuple" := by intro _;rfl)(hs:∀ i,starEach [e] (F.cx i).env=[(false,eval e (F.cx i).env)]:=by intro _;rfl):Ev F (.Call (.Name "tuple" p') [e] [] pos) ρ (.tp (xs.map .fz)) :=
 MH (r:=fun xs H Q=>∃ p ys,xs=[.ref p]/\((aL F.K H p ys/\∀ l,H l=none->Q (.ref l) (upd H l (.tup ys)))\/(cW F.K H p ys/\Q (.ref p) H))) (fun i=>F.hK i ▸ VC) hm B8 (aj ha aw hs) (fun G H vs Q s hx k=>by
  obtain⟨x,rfl,fY⟩:=jh hx;rw[ea]at fY;obtain⟨l,ws,rfl,h1,h2⟩:=fY;refine⟨l,ws,rfl,.inl ⟨s.seq h1,fun p hp=>k (.ref p) G _ [p] (.hW s hp) ⟨p,ws,[],rfl,bO,?_,rfl⟩ ⟨fun a ha=>by rw[rf.mp ha];exact hp,fun a ha=>by rw[rf.mp ha];exact s.free hp,by simp⟩⟩⟩;exact bC.jK h2) hg (by decide) (by decide) (fun i=>by rw[hs i];rfl) (fun i=>rfl)
end
theorem abe {K:Frag}{G H1:Hp}{l acc:Addr}{xs:List V}{zV:St}{te:TE}{f:Nat->Tr}{Q:VK}(sG:au G H1)(hl:H1 l=some (.lst xs))(fe:H1 acc=none)(hz:xs.length<sizeLine)(ev:∀ i x,xs[i]?=some x->∀ G2 H2 Q,au G G2->au G2 H2->au H1 H2->Kv K G2 H2 (f i) Q->te (zV.set 0 (some x)) H2 Q)(k:∀ v G' H' fq,Step G H1 G' H'->Ow K G' H' (.ow ((List.range xs.length).map f)) v fq->Nw H1 G' fq->Q v H') :
  ∃ W:Nat->Nat->List V->St->Hp->Prop,(∃ m,W 0 m [] zV (upd H1 acc (.lst [])))/\∀ i m ys aN H2,W i m ys aN H2->H2 acc=some (.lst ys)/\ys.length<sizeLine /\
   (((nO K l).stop i H2/\Q (.ref acc) H2)\/((nO K l).go i H2/\∃ N:List V->St->Hp->Prop,(∀ zs bE H3,N zs bE H3->∃ m',m'<m/\W (i+1) m' zs bE H3) /\
    ∀ x H3,(nO K l).nM i H2 x H3->cO 0 x aN H3 fun bE H4=>xF bE H4 fun b H5=>if b=true then te bE H5 (fun y H6=>H6 acc=some (.lst ys)/\N (ys++[y]) bE (upd H6 acc (.lst (ys++[y]))))else N ys bE H5)):=by
 refine⟨fun i m ys aN H2=>m=xs.length-i/\i<=xs.length/\(∀ x,aN.set 0 (some x)=zV.set 0 (some x))/\H2 acc=some (.lst ys)/\∃ G2 fq,Step G H1 G2 H2/\aE K G2 H2 ((List.range i).map f) ys fq/\Nw H1 G2 (acc::fq),
  ⟨_,rfl,DO _,fun _=>rfl,bO,G,[],.hW sG fe,⟨rfl,rfl⟩,⟨fun a ha=>by rw[rf.mp ha];exact fe,fun a ha=>by rw[rf.mp ha];exact sG.free fe,by simp⟩⟩,?_⟩
 rintro i m ys aN H2 ⟨rfl,hi,zq,kY,G2,fq,s2,o2,w2⟩;have hlen:ys.length<sizeLine:=by rw[<- o2.length,aa,Cf];omega
 refine⟨kY,hlen,?_⟩;have fV:H2 l=some (.lst xs):=s2.h _ _ hl;by_cases aT:i<xs.length
 ·have hx:=ab aT;refine .inr ⟨⟨xs,xs[i],.inl (.inl fV),hx⟩,fun zs bE H3=>(∀ x,bE.set 0 (some x)=zV.set 0 (some x))/\H3 acc=some (.lst zs)/\∃ G3 fq,Step G H1 G3 H3/\aE K G3 H3 ((List.range (i+1)).map f) zs fq/\Nw H1 G3 (acc::fq),
   fun zs bE H3 z=>⟨xs.length-(i+1),by omega,rfl,aT,z⟩,fun x H3 y=>?_⟩
  obtain⟨rfl,y⟩:=y;have ex:=y xs (.inl (.inl fV));have yw:∀ {Ga Ha Gb Hb:Hp} {fs:List Addr},Step Ga Ha Gb Hb->(∀ a ∈ fs,Ga a=none)->(∀ a ∈ fs,∃ o,Ha a=some o)->∀ a ∈ fs,Gb a=none:=fun {Ga Ha Gb Hb fs} st h1 h2 a ha=>by
   cases q:Gb a with
   |none=>rfl
   |some u =>
    obtain⟨u',bh⟩:=h2 a ha;have:=st.n a (h1 a ha) (by rw[q];exact fun z=>nomatch z);rw[bh]at this;cases this
  have tm:∀ a ∈ acc::fq,∃ o,H3 a=some o:=fun a ha=>(gr.mp ha).elim (fun z=>⟨_,z ▸ kY⟩) (o2.there a)
  dsimp only[cO,xF];rw[lp rfl,zq];refine ev i x ex G2 H3 _ s2.g s2.s s2.h fun v G6 H6 f6 s6 o6 w6=>?_
  have Gj:=s6.h _ _ kY;have pR:∀ a ∈ f6,a ∉ acc::fq:=fun a ha hb=>by
   obtain⟨u,hu⟩:=tm a hb;rw[w6.n a ha]at hu;cases hu
  have gH:=BB.mp w2.d;have g6:=yw s6 w2.g tm;have GO:=s2.trans s6;refine⟨Gj,fun x'=>by rw[WA],bO,G6,fq++(f6++[]),⟨GO.g,fun b u hb=>?_,fun b u hb=>?_,GO.n⟩,?_,⟨fun a ha=>?_,fun a ha=>?_,?_⟩⟩
  ·rw[aQ fun z=>by subst z;rw[fe]at hb;cases hb];exact GO.h b u hb
  ·rw[aQ fun z=>by subst z;rw[g6 _ (.head _)]at hb;cases hb];exact s6.s b u hb
  ·rw[ako,Cs];exact aE.append ((o2.mono s6.g s6.h).frame gH.1) ⟨v,[],f6,[],rfl,rfl,o6.frame fun z=>pR _ z (.head _),rfl,rfl⟩
  ·rw[FF]at ha;rcases gr.mp ha with z | z
   ·exact w2.n a (z ▸ .head _)
   ·rcases wb.mp z with z | z
    ·exact w2.n a (.tail _ z)
    ·exact s2.h.free (w6.n a z)
  ·rw[FF]at ha;rcases gr.mp ha with z | z
   ·exact g6 a (z ▸ .head _)
   ·rcases wb.mp z with z | z
    ·exact g6 a (.tail _ z)
    ·exact w6.g a z
  ·rw[FF];refine BB.mpr ⟨fun z=>?_,r8.mpr ⟨gH.2,w6.d,fun a ha b hb z=>?_⟩⟩
   ·rcases wb.mp z with z | z
    ·exact gH.1 z
    ·exact pR _ z (.head _)
   ·subst z;exact pR a hb (.tail _ ha)
 ·have e:i=xs.length:=by omega
  subst e;exact .inl ⟨⟨xs,.inl (.inl fV),br _⟩,k (.ref acc) G2 H2 (acc::fq) s2 ⟨acc,ys,fq,rfl,kY,o2,rfl⟩ w2⟩
end L2
namespace bH
open PySem L2 cY
def top (i:Nat):Stmt:=PySem.Challenge.pw_lotmeal_k92_whole_from_shares_to_tickets.main.body.getD i (.Pass ⟨0,0,0,0⟩)
structure Txt (mg:Str->Option Value):Prop where
 lI:mg "isinstance" = none
 Qk:mg "int" = none
 O6:mg "bool" = none
 jA:mg "list" = none
 CT:mg "tuple" = none
 bQ:mg "len" = none
 gL:mg "range" = none
 Ej:mg "zip" = none
 iD:mg "enumerate" = none
 xg:mg "sorted" = none
 Ql:mg "abs" = none
 Ek:mg "sum" = none
 ab8:mg "max" = none
 ab9:mg "min" = none
 aca:mg "all" = none
 yC:mg "any" = none
 acb:mg "set" = none
 aiN:mg "reversed" = none
 tV:∃ tk,mg "MOST_TURNS" = some (.int 5 tk)
 sk:∃ tk,mg "MOST" = some (.int 6 tk)
 tW:∃ tk,mg "MOST_COUNT" = some (.int 9 tk)
section
variable {P:Program}{w:World}{K:Frag}{mg:Str->Option Value}{base:Heap}
def ah (n:Nat):LI:=(List.range n).map fun i=>0+((i:Nat):Int)
theorem aW {n:Nat}{x:Int}:x ∈ ah n ↔ 0<=x/\x<n:=by
 unfold ah
 constructor
 ·intro h;obtain⟨i,hi,rfl⟩:=i4.mp h;have:=VT.mp hi;omega
 ·rintro⟨h0,h1⟩;exact i4.mpr ⟨x.toNat,VT.mpr (by omega),by omega⟩
theorem oh (n:Nat):(ah n).Nodup:=by
 unfold ah;rw[akt,ai2];exact(List.nodup_range (n:=n)).imp fun h z=>h (by omega)
abbrev qz:Stmt:=top 17
theorem wm:aZ ["one", "other", "rest"] ["one", "other"] (aq qz):=bt
def Em (dd:List Dv)(t:Tr):Prop:=∃ a b:Int,0<=a/\0<=b/\dd=[di a,di b]/\t=ti (gc a b)
theorem Vs {f:Addr}{fd:FuncData}{k:Nat}(F:aV K "common_part" "common_part" qz f fd)(T:Txt mg):aJ P w K mg base ak (k+1) f fd ["one", "other"] (spT K Em):=by
 refine bD F.d wm (fun dd t h=>by obtain⟨_,_,_,_,rfl,_⟩:=h;rfl) fun dd t h=>?_
 obtain⟨a,b,ha,hb,rfl,rfl⟩:=h;refine⟨_,.inl rfl,?_⟩;refine tU (fun p:Int×Int=>[some (ti p.1),some (ti p.2),none]) (fun p=>0<=p.1/\0<=p.2/\gc p.1 p.2=gc a b) (fun p=>!decide (p.2=0)) (fun p=>p.2.toNat) (a,b) rfl ⟨ha,hb,rfl⟩ (fun p hp=>Et.s (kM (ae 1 rfl) av)) (fun p hp h=>?_) (fun p hp h=>?_)
 ·obtain⟨x,y⟩:=p;obtain⟨h1,h2,h3⟩:=hp;have hy:y ≠ 0:=by simpa using h
  have jq : 0<=y:=h2;have l1:=LF x (show 0<y by omega);have l2:=Nl x hy;refine⟨(y,x % y),⟨h2,l2,?_⟩,?_,bw.fg (ax (aP 2 (Ev.s (gZ (ae 0 rfl) (ae 1 rfl) (by omega))) (fun _=>wm.nd)) (ax (aP 0 (Ev.s (ae 1 rfl)) (fun _=>wm.nd)) (aF (aP 1 (Ev.s (ae 2 rfl)) (fun _=>wm.nd))))) ⟨[2],rfl⟩⟩
  ·show gc y (x % y)=_;rw[NR];exact h3
  ·show(x % y).toNat<y.toNat;omega
 ·obtain⟨x,y⟩:=p;obtain⟨h1,h2,h3⟩:=hp;have GP:y=0:=by simpa using h
  have jr:gc x y=gc a b:=h3;have pK : 0<=x:=h1;have e:gc a b=x:=by rw[<- jr,GP,NQ];omega
  rw[e];exact aF (bL (Ev.s (ae 0 rfl)))
abbrev qW:Stmt:=top 16
theorem Wv:aZ ["number"] ["number"] (aq qW):=bt
def MT (dd:List Dv)(t:Tr):Prop:=∃ n:Int,dd=[di n]/\t=tb true
theorem Ww {f:Addr}{fd:FuncData}{k:Nat}(F:aV K "is_whole" "is_whole" qW f fd)(T:Txt mg):aJ P w K mg base ak (k+1) f fd ["number"] (spT K MT):=by
 refine bD F.d Wv (fun dd t h=>by obtain⟨n,rfl,_⟩:=h;rfl) fun dd t h=>?_
 obtain⟨n,rfl,rfl⟩:=h;refine⟨_,.inl rfl,?_⟩;exact aF (bL (Ev.s (Ev.to (yc (p:=true) (q:=true) (lR T.lI T.Qk OS (ae 0 rfl) (by with_unfolding_all rfl)) fun _=>(uF (Dr (p:=false) (lR T.lI T.O6 NF (ae 0 rfl) (by with_unfolding_all rfl))))) rfl)))
abbrev jw:Stmt:=top 18
theorem Ls:aZ ["top", "bottom", "part"] ["top", "bottom"] (aq jw):=bt
def gw (dd:List Dv)(t:Tr):Prop:=∃ a b:Int,0<b/\b.natAbs<2 ^ 8000/\dd=[di a,di b]/\t=tF (lT a b,lB a b)
theorem Wx {f f1 f2:Addr}{fd aI fd2:FuncData}{dV:Value}{k:Nat}(F:sT K "fraction" "fraction" jw dV f fd)(T:Txt mg)(LN:Kn P w K mg base ak (k+1) "is_whole" f1 aI ["number"] (spT K MT))(Bd:Kn P w K mg base ak (k+1) "common_part" f2 fd2 ["one", "other"] (spT K Em)):aJ P w K mg base ak (k+2) f fd ["top", "bottom"] (spT K gw):=by
 refine bD F Ls (fun dd t h=>by obtain⟨_,_,_,_,rfl,_⟩:=h;rfl) fun dd t h=>?_
 obtain⟨a,b,hb,hz,rfl,rfl⟩:=h;refine⟨_,.inl rfl,?_⟩;refine ax (cH (Et.s (Ew.et (gk (gM (eJ (aG LN (br _) (aj (ae 0 rfl) aw) ⟨a,rfl,rfl⟩))) fun _=>(jV (gM (eJ (aG LN (br _) (aj (ae 1 rfl) aw) ⟨b,rfl,rfl⟩))))))) rfl) ?_;refine ax (cH (Et.s (jD (ae 1 rfl) av)) (tw (by omega))) ?_;have ha : 0<=(if a<0 then -a else a):=by split<;>omega
 have dQ : 0<=(if b<0 then -b else b):=by split<;>omega
 have eg:gc (if a<0 then -a else a) (if b<0 then -b else b)=gc a b:=by
  rw[show(if a<0 then -a else a)=(a.natAbs:Int) by split<;>omega,show(if b<0 then -b else b)=(b.natAbs:Int) by split<;>omega,aaR]
 have gp:=oO (a:=a) (show b ≠ 0 by omega);have gl:=CJ (a:=a) hb;refine ax (aP 2 (bx.to (t':=ti (gc a b)) (Ev.s (aG Bd (br _) (aj (OV T.Ql (ae 0 rfl)) (aj (OV T.Ql (ae 1 rfl)) aw)) ⟨_,_,ha,dQ,rfl,rfl⟩)) (by rw[eg])) (fun _=>Ls.nd)) ?_;refine ax (cH (Et.s (jW (ae 1 rfl) av)) (tw (by omega))) ?_;have cd:∀ i:Int,D9 i (gc a b):=fun i=>⟨gp,EU (by omega) hz⟩
 refine aF (bL (Ev.s (xG (aj (gh (ae 0 rfl) (ae 2 rfl) (cd _)) (aj (gh (ae 1 rfl) (ae 2 rfl) (cd _)) aw)) ?_ (by show 2<=sizeLine;decide))));show[di (a / gc a b),di (b / gc a b)]=_;rw[aaS hb,aaT hb]
abbrev so:Stmt:=top 19
theorem ZR:aZ ["one", "other"] ["one", "other"] (aq so):=bt
def iH (p:Int×Int):Prop:=0<p.2/\p.2.natAbs<2 ^ 250/\p.1.natAbs<2 ^ 250
def Qm (dd:List Dv)(t:Tr):Prop:=∃ p q:Int×Int,iH p/\iH q/\dd=[dF p,dF q]/\t=tF (lT (p.1*q.2+q.1*p.2) (p.2*q.2),lB (p.1*q.2+q.1*p.2) (p.2*q.2))
theorem ck {a:Int}{n:Nat}(h:a.natAbs<2 ^ n)(hn:n<=8000):a.natAbs<2 ^ 8000:=AS h (Nat.pow_le_pow_right (by decide) hn)
theorem uI {a b:Int}{m n:Nat}(h1:a.natAbs<2 ^ m)(h2:b.natAbs<2 ^ n):(a*b).natAbs<2 ^ (m+n):=by
 rw[WE,Nat.pow_add];exact Nat.mul_lt_mul'' h1 h2
theorem ZS {f f1:Addr}{fd aI:FuncData}{k:Nat}(F:aV K "plus" "plus" so f fd)(T:Txt mg)(cq:Kn P w K mg base ak (k+2) "fraction" f1 aI ["top", "bottom"] (spT K gw)):aJ P w K mg base ak (k+3) f fd ["one", "other"] (spT K Qm):=by
 refine bD F.d ZR (fun dd t h=>by obtain⟨_,_,_,_,rfl,_⟩:=h;rfl) fun dd t h=>?_
 obtain⟨p,q,⟨p1,p2,p3⟩,⟨q1,q2,q3⟩,rfl,rfl⟩:=h;refine⟨_,.inl rfl,?_⟩;have fH:∀ r:Int×Int,bu [di r.1,di r.2] 0=some (di r.1):=fun _=>rfl
 have eC:∀ r:Int×Int,bu [di r.1,di r.2] 1=some (di r.2):=fun _=>rfl
 exact aF (bL (Ev.s (aG cq (br _) (aj (eI (d9 (aY (ae 0 rfl) av rfl (fH p)) (aY (ae 1 rfl) av rfl (eC q)) ⟨ck p3 (by decide),ck q2 (by decide)⟩) (d9 (aY (ae 1 rfl) av rfl (fH q)) (aY (ae 0 rfl) av rfl (eC p)) ⟨ck q3 (by decide),ck p2 (by decide)⟩)) (aj (d9 (aY (ae 0 rfl) av rfl (eC p)) (aY (ae 1 rfl) av rfl (eC q)) ⟨ck p2 (by decide),ck q2 (by decide)⟩) aw)) ⟨_,_,NJ p1 q1,ck (uI p2 q2) (by decide),rfl,rfl⟩)))
abbrev qm:Stmt:=top 32
theorem Ba:aZ ["orders", "many", "asker", "order"] ["orders", "many"] (aq qm):=bt
def O7 (dd:List Dv)(t:Tr):Prop:=∃ (os:LL) (n:Int),(∀ o ∈ os,o.Nodup/\o.length<=100/\∀ x ∈ o,0<=x/\x<n)/\dd=[.lst (os.map dis),di n]/\t=tn
theorem ur {α:Type}(l:List α)(f : α->Bool):er (.ow (l.map fun k=>Tr.fz (db (f k))))=.lst ((l.map f).map db):=by
 rw[dk,gz];rfl
theorem Vl {f:Addr}{fd:FuncData}{k:Nat}(F:aV K "check_orders" "check_orders" qm f fd)(T:Txt mg):aJ P w K mg base ak (k+1) f fd ["orders", "many"] (spT K O7):=by
 refine bD F.d Ba (fun dd t h=>by obtain⟨_,_,_,rfl,_⟩:=h;rfl) fun dd t h=>?_
 obtain⟨os,n,ho,rfl,rfl⟩:=h;refine⟨_,.inr ⟨rfl,[some (.fz (.lst (os.map dis))),some (ti n),none,none],rfl⟩,?_⟩;have big : 1000<sizeLine:=by decide
 refine ax (ρ1:=[some (.fz (.lst (os.map dis))),some (ti n),none,none]) (e7 (bp.s (iU T.iD (ae 0 rfl) rfl)) (eK 2 3 (fun _=>Ba.nd)) (fun _=>[some (.fz (.lst (os.map dis))),some (ti n),none,none]) rfl (fun _=>rfl) (fun j d hd=>?_)) ?_
 ·obtain⟨x,hx,rfl⟩:=CM hd;obtain⟨o,ip,rfl⟩:=dH hx;obtain⟨o1,o2,o3⟩:=ho o (mT ip);refine⟨_,_,rfl,aF (cH (Et.s (eJ (yg (bs:=o.map fun x=>decide (x<0) || decide (n<=x)) T.yC (fL (own:=["thing"]) (fr:=[1]) o di (fun x=>tb (decide (x<0) || decide (n<=x))) (fun i=>bV) (bR (ae 3 rfl) rfl) (bJ 0 (fun _=>by show List.Nodup (["thing", "many"]:List Str);decide)) (by decide) (by omega) (fun x hx=>⟨_,rfl,Qd (Ea (ae 0 rfl) av) fun _=>uF (abY (ae 0 rfl) (ae 1 rfl))⟩) (fun dd=>by cases dd<;>rfl)) (ur o _)))) ?_),[2,3],rfl⟩;rw[ajX];intro b hb;obtain⟨x,hx,rfl⟩:=i4.mp hb;obtain⟨x0,x1⟩:=o3 x hx;simp only[id,tw (show ¬ x<0 by omega),tw (show ¬ n<=x by omega)]
  decide
 refine ax (ρ1:=[some (.fz (.lst (os.map dis))),some (ti n),none,none]) (e7 (bp.s (iU T.iD (ae 0 rfl) rfl)) (eK 2 3 (fun _=>Ba.nd)) (fun _=>[some (.fz (.lst (os.map dis))),some (ti n),none,none]) rfl (fun _=>rfl) (fun j d hd=>?_)) uo;obtain⟨x,hx,rfl⟩:=CM hd;obtain⟨o,ip,rfl⟩:=dH hx;obtain⟨o1,o2,o3⟩:=ho o (mT ip);refine⟨_,_,rfl,aF (cH (Et.s (kM (XF T.bQ T.acb (ae 3 rfl) rfl (by omega)) (bS T.bQ (ae 3 rfl) (.inl rfl)))) ?_),[2,3],rfl⟩;rw[V8 o1,aa];simp
abbrev qX:Stmt:=top 33
theorem Wy:aZ ["counts", "orders"] ["counts", "orders"] (aq qX):=bt
def Q5 (dd:List Dv)(t:Tr):Prop:=∃ (c:LI) (os:LL),gq c os/\dd=[dis c,.lst (os.map dis)]/\t=.tp [aU c,fO os]
theorem Wz {f f1:Addr}{fd aI:FuncData}{k:Nat}(F:aV K "table_of" "table_of" qX f fd)(T:Txt mg)(Vt:Kn P w K mg base ak (k+1) "check_orders" f1 aI ["orders", "many"] (spT K O7)):aJ P w K mg base ak (k+2) f fd ["counts", "orders"] (spT K Q5):=by
 refine bD F.d Wy (fun dd t h=>by obtain⟨_,_,_,rfl,_⟩:=h;rfl) fun dd t h=>?_
 obtain⟨c,os,ok,rfl,rfl⟩:=h;refine⟨_,.inl rfl,?_⟩;have big : 1000<sizeLine:=by decide
 have c6:=ok.c6;have o6:=ok.o6;have o1:=ok.o1;obtain⟨tk,gm⟩:=T.sk;obtain⟨tk2,gm2⟩:=T.tW;refine ax (cH (Et.s (Ew.et (gk (jX (bS T.bQ (ae 0 rfl) (.inl rfl)) (um (v:=.int 6) gm ⟨_,rfl⟩ rfl)) fun _=>(jV (jX (bS T.bQ (ae 1 rfl) (.inl rfl)) (um (v:=.int 6) gm ⟨_,rfl⟩ rfl)))))) ?_) ?_
 ·rw[aa,aa,tw (by omega),tw (by omega)];rfl
 refine ax (cH (Et.s (jD (bS T.bQ (ae 1 rfl) (.inl rfl)) av)) ?_) ?_
 ·rw[aa,tw (by omega)]
 refine ax (cH (Et.s (eJ (yg (bs:=c.map fun x=>decide (x<0) || decide (9<x)) T.yC (fL (own:=["count"]) (fr:=[]) c di (fun x=>tb (decide (x<0) || decide (9<x))) (fun i=>bV) (bR (ae 0 rfl) rfl) (bJ 0 (fun _=>by show List.Nodup (["count"]:List Str);decide)) (by decide) (by omega) (fun x hx=>⟨_,rfl,by exact Qd (Ea (ae 0 rfl) av) fun _=>uF (Eb (ae 0 rfl) (um (v:=.int 9) gm2 ⟨_,rfl⟩ rfl))⟩) (fun dd=>by cases dd<;>rfl)) (ur c _)))) ?_) ?_
 ·rw[ajX];intro b hb;obtain⟨x,hx,rfl⟩:=i4.mp hb;obtain⟨x0,x1⟩:=ok.cnt x hx;simp only[id,tw (show ¬ x<0 by omega),tw (show ¬ 9<x by omega)]
  decide
 refine ax (Zv (Ev.s (aG Vt (br _) (aj (ae 1 rfl) (aj (bS T.bQ (ae 0 rfl) (.inl rfl)) aw)) ⟨os,c.length,fun o ho=>⟨ok.nd o ho,zd (ok.nG ho) (by decide),ok.cF o ho⟩,?_,rfl⟩))) ?_
 rotate_left
 ·rw[aa];rfl
 refine aF (bL (Ev.s (Ev.to (Ds (aj (oE T.jA (ae 0 rfl) (.inl rfl)) (aj (fL (own:=["order"]) (fr:=[]) os dis aU (fun i=>bV) (bR (ae 1 rfl) rfl) (bJ 0 (fun _=>by show List.Nodup (["order"]:List Str);decide)) (by decide) (by omega) (fun o ho=>⟨_,rfl,Ev.to (oE T.jA (ae 0 rfl) (.inl rfl)) (by rw[m3])⟩) (fun dd=>by cases dd<;>rfl)) aw)) (by show 2<=sizeLine;decide)) (by rw[m3]))))
abbrev qI:Stmt:=top 34
theorem Be:aZ ["table", "asker", "many", "order"] ["table", "asker"] (aq qI):=bt
def Eo (dd:List Dv)(t:Tr):Prop:=∃ (c:LI) (os:LL) (a:Int) (o:LI),c.length<=100/\o.length<=100/\bu os a=some o/\dd=[gP c os,di a]/\t=aU (cP c.length o)
theorem ZT {α β:Type}(f : α->β){l:List α}{k:Int}{x : α}(h:bu l k=some x):bu (l.map f) k=some (f x):=by
 unfold bu at h ⊢;rw[aa];cases q:dv l.length k with
 |none=>rw[q]at h;cases h
 |some j =>
  rw[q]at h;show(l.map f)[j]?=_;have h':l[j]?=some x:=h;rw[ee,h'];rfl
theorem VL {f:Addr}{fd:FuncData}{k:Nat}(F:aV K "full_order" "full_order" qI f fd)(T:Txt mg):aJ P w K mg base ak (k+1) f fd ["table", "asker"] (spT K Eo):=by
 refine bD F.d Be (fun dd t h=>by obtain⟨_,_,_,_,_,_,_,rfl,_⟩:=h;rfl) fun dd t h=>?_
 obtain⟨c,os,a,o,h1,h2,h3,rfl,rfl⟩:=h;refine⟨_,.inl rfl,?_⟩;have big : 1000<sizeLine:=by decide
 refine ax (aP 2 (Ev.s (bS T.bQ (aY (d:=dis c) (ae 0 rfl) av rfl rfl) (.inl rfl))) (fun _=>Be.nd)) ?_;refine ax (aP 3 (Ev.s (dU (d:=dis o) (aY (d:=.lst (os.map dis)) (ae 0 rfl) av rfl rfl) (ae 1 rfl) rfl (ZT dis h3))) (fun _=>Be.nd)) ?_;rw[aa];refine aF (bL (Ev.s (Ev.to (yb (yb (ae 3 rfl) (fD (aj (ae 2 rfl) aw) (by show 1<=sizeLine;decide)) rfl rfl ?_) (sJ (own:=["thing"]) (fr:=[3]) (fun i=>bV) (iE T.gL (ae 2 rfl) ⟨by omega,by omega⟩) (bJ 0 (fun _=>by show List.Nodup (["thing", "order"]:List Str);decide)) (by decide) (fun k=>!o.contains (0+((k:Nat):Int))) (fun k=>ti (0+((k:Nat):Int))) ?_ (fun k d hd=>?_) (fun dd=>?_)) (oM _) (uG _ _) ?_) ?_)))
 ·show(o.map di).length+1<=sizeLine;rw[aa];omega
 ·rw[aa,Cf];omega
 ·obtain⟨hi,rfl⟩:=xM hd;exact⟨_,rfl,g9 (wX (ae 0 rfl) (ae 1 rfl) rfl (by with_unfolding_all rfl)),fun _=>ae 0 rfl⟩
 ·cases dd<;>rfl
 ·have e:(jj 0 ((c.length:Nat):Int).toNat).length=c.length:=by simp
  rw[e];show((o.map di)++[di _]).length+((lU c.length o).map di).length<=sizeLine;have:=BH c.length o;simp only[qr,aa,EM];omega
 ·have e:(jj 0 ((c.length:Nat):Int).toNat).length=c.length:=by simp
  rw[e];show Tr.ow ((((o.map di)++[di _])++((lU c.length o).map di)).map .fz)=Tr.ow ((o++[(c.length:Int)]++lU c.length o).map _);simp only[Cs,gz]
  rfl
abbrev qJ:Stmt:=top 35
theorem VM:aZ ["order", "gone"] ["order", "gone"] (aq qJ):=bt
def fP (order gone:LI):LI:=order.filter fun x=>!gone.contains x
def DE (dd:List Dv)(t:Tr):Prop:=∃ (order gone:LI) (x:Int) (r:LI),order.length<=100/\fP order gone=x::r/\dd=[dis order,dis gone]/\t=ti x
theorem Wb {α:Type}(l:List α)(d : α)(p : α->Bool):(((List.range l.length).filter fun k=>p ((l[k]?).getD d)).map fun k=>(l[k]?).getD d)=l.filter p:=by
 have h:((List.range l.length).map fun k=>(l[k]?).getD d)=l:=by
  have:=tS l d id;simpa using this
 conv=>rhs;rw[<- h]
 rw[ajM]
 rfl
theorem VN {f:Addr}{fd:FuncData}{k:Nat}(F:aV K "first_left" "first_left" qJ f fd)(T:Txt mg):aJ P w K mg base ak (k+1) f fd ["order", "gone"] (spT K DE):=by
 refine bD F.d VM (fun dd t h=>by obtain⟨_,_,_,_,_,_,rfl,_⟩:=h;rfl) fun dd t h=>?_
 obtain⟨order,gone,x,r,h1,h2,rfl,rfl⟩:=h;refine⟨_,.inl rfl,?_⟩;have big : 1000<sizeLine:=by decide
 refine aF (bL (Ev.s (dU (xs:=(fP order gone).map di) (d:=di x) (sJ (own:=["one"]) (fr:=[1]) (fun i=>bV) (bR (ae 0 rfl) rfl) (bJ 0 (fun _=>by show List.Nodup (["one", "gone"]:List Str);decide)) (by decide) (fun k=>!gone.contains ((order[k]?).getD 0)) (fun k=>ti ((order[k]?).getD 0)) ?_ (fun k d hd=>?_) (fun dd=>?_)) av ?_ ?_)))
 ·rw[aa];omega
 ·obtain⟨y,hy,rfl⟩:=dH hd;refine⟨_,rfl,?_,fun _=>?_⟩
  ·rw[hy];exact g9 (wX (ae 0 rfl) (ae 1 rfl) rfl (by with_unfolding_all rfl))
  ·rw[hy];exact ae 0 rfl
 ·cases dd<;>rfl
 ·rw[uG,aa,Wb order 0 fun x=>!gone.contains x]
  rfl
 ·rw[h2];exact iV (j:=0) rfl
abbrev rp:Stmt:=top 59
theorem tZ:aZ ["table", "turns", "counts", "deal", "asker", "gone"] ["table", "turns"] (aq rp):=bt
def iJ (ws:List V)(x:Int):Nat:=ws.countP fun z=>dw z (.int x)
def oU (c:LI)(ws:List V):LI:=((List.range c.length).filter fun k=>decide (((iJ ws ((k:Nat):Int):Nat):Int)=(c[k]?).getD 0)).map fun k=>((k:Nat):Int)
def kN (c:LI)(o:LI)(ws:List V):Int:=(fP (cP c.length o) (oU c ws)).headD 0
def jY (c:LI)(os:LL)(ws:List V)(a:Int):List V:=ws.set a.toNat (.int (kN c (os.getD a.toNat []) ws))
def cI (c:LI)(os:LL)(turns:LI):List V:=turns.foldl (jY c os) (List.replicate os.length .aH)
def acX:V->Int
 | .int n=>n
 |_=>0
def dJ (c:LI)(os:LL)(turns:LI):LI:=(cI c os turns).map acX
theorem WB (n:Nat):(ah n).Pairwise (· <= ·):=by
 unfold ah;rw[ai2];exact(List.pairwise_lt_range (n:=n)).imp fun h=>by omega
theorem ZU {c:LI}{ws:List V}{x:Int}(h:x ∈ oU c ws) : 0<=x/\x<c.length/\((iJ ws x:Nat):Int)=(c[x.toNat]?).getD 0:=by
 obtain⟨k,hk,rfl⟩:=i4.mp h;obtain⟨h1,h2⟩:=AM.mp hk;have:=VT.mp h1;refine⟨by omega,by omega,?_⟩;rw[show((k:Nat):Int).toNat=k by omega];simpa using h2
theorem YH {c:LI}{ws:List V}{x:Int}(h0 : 0<=x)(h1:x<c.length)(h2:((iJ ws x:Nat):Int)=(c[x.toNat]?).getD 0):x ∈ oU c ws:=by
 refine i4.mpr ⟨x.toNat,AM.mpr ⟨VT.mpr (by omega),?_⟩,by omega⟩;rw[show((x.toNat:Nat):Int)=x by omega];simpa using h2
theorem CU (c o:LI)(ws:List V):∃ x r,fP (cP c.length o) (oU c ws)=x::r:=by
 have hm:((c.length:Nat):Int) ∈ fP (cP c.length o) (oU c ws):=by
  unfold fP cP;refine AM.mpr ⟨by simp,?_⟩;rw[Bool.not_eq_true',akP];intro z;have:=ZU (by simpa using z);omega
 cases h:fP (cP c.length o) (oU c ws)with
 |nil=>rw[h]at hm;cases hm
 |cons x r=>exact⟨x,r,rfl⟩
theorem wD (c:LI)(os:LL)(ts:LI)(a:Int):cI c os (ts++[a])=jY c os (cI c os ts) a:=by unfold cI;rw[ajr];rfl
theorem mV (c:LI)(os:LL):∀ ts:LI,(cI c os ts).length=os.length:=by
 intro ts;unfold cI;have gen:∀ (ts:LI) (ws:List V),(ts.foldl (jY c os) ws).length=ws.length:=by
  intro ts
  induction ts with
  |nil=>intro ws;rfl
  |cons a ts ih=>intro ws;rw[akn,ih];unfold jY;rw[ET]
 rw[gen,aj2]
theorem MU (c:LI)(os:LL):∀ (ts:LI),(∀ a ∈ ts,0<=a/\a<os.length)->∀ i,i<os.length->((i:Int) ∉ ts->(cI c os ts)[i]?=some .aH)/\((i:Int) ∈ ts->∃ n,(cI c os ts)[i]?=some (.int n)):=by
 have gen:∀ (n:Nat) (ts:LI),ts.length=n->(∀ a ∈ ts,0<=a/\a<os.length)->∀ i,i<os.length->((i:Int) ∉ ts->(cI c os ts)[i]?=some .aH)/\((i:Int) ∈ ts->∃ n,(cI c os ts)[i]?=some (.int n)):=?_;exact fun ts=>gen ts.length ts rfl
 intro n
 induction n with
 |zero =>
  intro ts hl _ i hi;obtain rfl:=ajP.mp hl;refine⟨fun _=>?_,fun h=>nomatch h⟩;show(List.replicate os.length V.aH)[i]?=_;rw[ajH,lp hi]
 |succ n ih =>
  intro Tj hl h i hi;obtain⟨ts,a,rfl⟩:∃ ts a,Tj=ts++[a]:=by
   rcases ajk Tj with rfl | ⟨ts,a,rfl⟩
   ·cases hl
   ·exact⟨ts,a,by rw[Zl]⟩
  obtain⟨i1,i2⟩:=ih ts (by simpa using hl) (fun x hx=>h x (nv _ hx)) i hi;have ha:=h a (by simp);rw[wD];unfold jY;rw[Lu,mV];by_cases e:a.toNat=i
  ·rw[lp e,lp (by omega)];refine⟨fun z=>absurd (by simp;right;omega) z,fun _=>⟨_,rfl⟩⟩
  ·rw[mf e];refine⟨fun z=>i1 fun z'=>z (nv _ z'),fun z=>i2 ?_⟩;rcases wb.mp z with z | z
   ·exact z
   ·have:=rf.mp z;omega
theorem LO {c:LI}{os:LL}{ts:LI}(h:ts.Perm (ah os.length)):cI c os ts=(dJ c os ts).map V.int:=by
 unfold dJ;rw[gz];refine IF fun i=>?_
 rw[ee];rcases JJ i os.length with hi | hi
 ·obtain⟨n,hn⟩:=(MU c os ts (fun a ha=>by have:=aW.mp (h.mem_iff.mp ha);exact this) i hi).2 (h.mem_iff.mpr (aW.mpr ⟨by omega,by omega⟩));rw[hn];rfl
 ·rw[nt (by rw[mV];exact hi)];rfl
def CV (dd:List Dv)(t:Tr):Prop:=∃ (c:LI) (os:LL) (ts:LI),gq c os/\ts.Perm (ah os.length)/\dd=[gP c os,dis ts]/\t=aU (dJ c os ts)
theorem W5 {f f1 f2:Addr}{fd aI fd2:FuncData}{k:Nat}(F:aV K "deal_by" "deal_by" rp f fd)(T:Txt mg)(Bh:Kn P w K mg base ak (k+1) "full_order" f1 aI ["table", "asker"] (spT K Eo))(Bi:Kn P w K mg base ak (k+1) "first_left" f2 fd2 ["order", "gone"] (spT K DE)):aJ P w K mg base ak (k+2) f fd ["table", "turns"] (spT K CV):=by
 refine bD F.d tZ (fun dd t h=>by obtain⟨_,_,_,_,_,rfl,_⟩:=h;rfl) fun dd t h=>?_
 obtain⟨c,os,ts,ok,hp,rfl,rfl⟩:=h;refine⟨_,.inl rfl,?_⟩;have big : 1000<sizeLine:=by decide
 have hlen:ts.length=os.length:=by rw[hp.length_eq];unfold ah;rw[aa,Cf]
 have o6:=ok.o6;have c6:=ok.c6;refine ax (aP 2 (Ev.s (aY (d:=dis c) (ae 0 rfl) av rfl rfl)) (fun _=>tZ.nd)) ?_;have acd:sortI ts=ah os.length:=Bm ((sortI_perm ts).trans hp) (xc ts) (WB _);have e1:er (aU (sortI ts))=dis (sortI ts):=eZ _;have e2:er (Tr.ow (((List.range (((os.map dis).length:Nat):Int).toNat).map fun i=>(0+((i:Nat):Int))).map fun n=>Tr.fz (di n)))=dis (ah os.length):=by rw[uG,aj8,aa];rfl
 refine ax (cH (Et.s (lQ (XG T.xg (ae 1 rfl) rfl (by omega)) (Wa T.jA T.gL (bS T.bQ (aY (d:=.lst (os.map dis)) (ae 0 rfl) av rfl rfl) (.inl rfl)) (by omega) (by rw[aa];omega)) (.inl ⟨_,_,rfl,rfl⟩) ?_)) ?_) ?_
 ·rw[e1];exact zd (xO _) (by decide)
 ·rw[e1,e2,acd,w8 (NS _)];rfl
 refine ax (aP 3 (Ev.s (Ev.to (t':=.ow ((List.replicate os.length V.aH).map fun v=>.fz (.fl v))) (sJ (own:=["asker"]) (fr:=[]) (fun i=>bV) (bR (ae 1 rfl) rfl) (bJ 0 (fun _=>by show List.Nodup (["asker"]:List Str);decide)) (by decide) (fun k=>true) (fun k=>tn) ?_ (fun k d hd=>?_) (fun dd=>?_)) ?_)) (fun _=>tZ.nd)) ?_
 ·rw[aa];omega
 ·obtain⟨y,hy,rfl⟩:=dH hd;exact⟨_,rfl,yd,fun _=>OT⟩
 ·cases dd<;>rfl
 ·rw[ai8.mpr (fun _ _=>rfl),aa,hlen];congr 1;refine IF fun i=>?_
  rw[ee,ee,ajH];rcases JJ i os.length with hi | hi
  ·rw[CS hi,lp hi];rfl
  ·rw[nt (by simpa using hi),mf (by omega)];rfl
 refine ax (e7 (bp.s (bR (ae 1 rfl) rfl)) (bJ 4 (fun _=>tZ.nd)) (fun k=>[some (.fz (gP c os)),some (.fz (dis ts)),some (.fz (dis c)),some (.ow ((cI c os (ts.take k)).map fun v=>.fz (.fl v))),none,none]) rfl (fun _=>rfl) (fun j d hd=>?_)) ?_
 ·obtain⟨a,ha,rfl⟩:=dH hd;obtain⟨a0,a1⟩:=aW.mp (hp.mem_iff.mp (mT ha));obtain⟨o,GQ⟩:∃ o,os[a.toNat]?=some o:=⟨_,ab (by omega)⟩
  have gV:bu os a=some o:=by
   have:=iV GQ;rwa [show((a.toNat:Nat):Int)=a by omega]at this
  have hol:=ok.nG (mT GQ);obtain⟨x,r,hx⟩:=CU c o (cI c os (ts.take j));have hfl:(cP c.length o).length<=100:=by
   unfold cP;have:=BH c.length o;simp only[qr,EM];omega
  have ace:kN c (os.getD a.toNat []) (cI c os (ts.take j))=x:=by
   unfold kN;rw[ba,GQ,ake,hx]
   rfl
  refine⟨_,_,rfl,ax (i5 5 (QS (dD.to (t':=aU (oU c (cI c os (ts.take j)))) (Gi (own:=["thing", "count"]) (fr:=[3]) (iU T.iD (ae 2 rfl) rfl) (eK 0 1 (fun _=>by show List.Nodup (["thing", "count", "deal"]:List Str);decide)) (by decide) (fun k=>decide (((iJ (cI c os (ts.take j)) ((k:Nat):Int):Nat):Int)=(c[k]?).getD 0)) (fun k=>ti ((k:Nat):Int)) ?_ (fun k d hd=>?_) (fun dd=>?_)) ?_) ?_) (fun i=>bV) (fun _=>tZ.nd))
   (aF (Yp 3 (n:=a) (m:=a.toNat) rfl (Ev.s (ae 4 rfl)) ?_ (Ev.pk (t:=ti x) (aG Bi (br _) (aj (aG Bh (br _) (aj (ae 0 rfl) (aj (ae 4 rfl) aw)) ⟨c,os,a,o,by omega,by omega,gV,rfl,rfl⟩) (aj (ae 5 rfl) aw)) ⟨_,_,x,r,hfl,hx,?_,rfl⟩) True.intro) (hps:=fun i=>rZ (pv 3) (oS i) set_list))),[4,5],?_⟩
  ·rw[NU,aa];omega
  ·obtain⟨y,hy,rfl⟩:=CM hd;obtain⟨z,hz,rfl⟩:=dH hy;refine⟨_,rfl,?_,fun _=>ae 0 rfl⟩;rw[hz];exact g9 (jD (XH (ae 2 rfl) (Yr _) (ae 0 rfl)) (ae 1 rfl))
  ·match dd with
   |[] => rfl
   |[_] => rfl
   |_::_::_=>rfl
  ·rw[NU,aa];show _=Tr.ow ((List.map _ _).map _);rw[gz]
   rfl
  ·exact rQ _
  ·rw[aa,mV];unfold dv;rw[lp a0,lp a1]
  ·show[_,_,_,some (Tr.ow (List.set _ _ _)),_,_]=[_,_,_,some (Tr.ow _),_,_]
   rw[fA ha,wD];unfold jY;rw[ace,aj5]
  ·show[er (aU _),er (aU _)]=_;rw[eZ,eZ]
 ·rw[aa,Mn,LO hp,gz];exact aF (oG 3 rfl)
end
section
variable {P:Program}{w:World}{K:Frag}{mg:Str->Option Value}{base:Heap}
def jS (L:LL)(n:Nat):LL:=L.flatMap fun l=>((List.range n).filter fun k=>!l.contains (0+((k:Nat):Int))).map fun k=>l++[0+((k:Nat):Int)]
def cN (n:Nat):Nat->LL
 |0=>[[]]
 |k+1=>jS (cN n k) n
abbrev tL (l:LI):Tr:=.ow (l.map fun n=>.fz (di n))
abbrev nW (L:LL):Tr:=.ow (L.map tL)
theorem YJ (l:LI):fX (l.map fun n=>Tr.fz (di n))=l.map di:=by rw[kG,gz];rfl
theorem acf (l:LI):er (tL l)=dis l:=by show Dv.lst _=_;rw[YJ]
theorem O8 (L:LL):er (nW L)=.lst (L.map dis):=by
 show Dv.lst _=_;rw[kG,gz];congr 1;exact ma fun l _=>acf l
theorem O9:∀ L:LL,oX (L.map tL)
 |[] => True.intro
 |l::L=>⟨rQ l,O9 L⟩
theorem Lv (n:Nat):∀ L:LL,(jS L n).length<=L.length*n
 |[] => DO _
 |l::L=>by
  show((((List.range n).filter _).map _)++jS L n).length<=_;rw[qr,aa,AN,Nat.succ_mul];have h1:=IS (fun k=>!l.contains (0+((k:Nat):Int))) (List.range n);rw[Cf]at h1;have:=Lv n L;omega
abbrev rF:Stmt:=top 60
theorem BL:aZ ["lists", "many", "told", "one"] ["lists", "many"] (aq rF):=bt
def N7 (dd:List Dv)(t:Tr):Prop:=∃ (L:LL) (n:Nat),dd=[.lst (L.map dis),di n]/\L.length*n<=1000/\n<=100/\(∀ l ∈ L,l.length<=100)/\t=nW (jS L n)
theorem XT {f:Addr}{fd:FuncData}{k:Nat}(F:aV K "longer" "longer" rF f fd)(T:Txt mg):aJ P w K mg base ak (k+1) f fd ["lists", "many"] (spT K N7):=by
 refine bD F.d BL (fun dd t h=>by obtain⟨L,n,rfl,_⟩:=h;rfl) fun dd t h=>?_
 obtain⟨L,n,rfl,h1,h2,h3,rfl⟩:=h;refine⟨_,.inl rfl,?_⟩;have big : 1000<=sizeLine:=by decide
 refine ax (aP 2 (Ev.s (fD aw (DO _))) (fun _=>BL.nd)) ?_;refine ax (e7 (bp.s (bR (ae 0 rfl) rfl)) (bJ 3 (fun _=>BL.nd)) (fun k=>[some (.fz (.lst (L.map dis))),some (.fz (di n)),some (nW (jS (L.take k) n)),none]) rfl (fun _=>rfl) (fun j d hd=>?_)) ?_
 ·rw[ee]at hd;cases hl:L[j]? with
  |none=>rw[hl]at hd;cases hd
  |some l =>
   rw[hl]at hd;cases hd;have hjL:j<L.length:=(ir.mp hl).1;have e:(jS (L.take (j+1)) n)=jS (L.take j) n++((List.range n).filter fun k=>!l.contains (0+((k:Nat):Int))).map fun k=>l++[0+((k:Nat):Int)]:=by
    rw[fA hl];unfold jS;rw[List.flatMap_append];simp
   have hlen:(jS (L.take (j+1)) n).length<=1000:=by
    refine zd (Lv _ _) (zd (Nat.mul_le_mul_right n ?_) h1);rw[NG];omega
   refine⟨_,_,rfl,aF (XB 2 rfl (Ev.s (sJ (own:=["number"]) (fr:=[3]) (fun i=>bV) (iE T.gL (ae 1 rfl) ⟨by omega,by omega⟩)
    (bJ 0 (fun _=>by show List.Nodup (["number", "one"]:List Str);decide)) (by decide) (fun k=>!l.contains (0+(k:Int))) (fun k=>.ow ((l.map di++[di (0+((k:Nat):Int))]).map .fz)) ?_ (fun k d hd=>?_) (fun dd=>?_))) ?_),?_⟩
   ·rw[aa,Cf];show(n:Int).toNat<sizeLine;omega
   ·rw[ee]at hd;cases hk:(List.range ((n:Int).toNat))[k]? with
    |none=>rw[hk]at hd;cases hd
    |some k' =>
     have:k'=k:=by
      obtain⟨q1,q2⟩:=ir.mp hk;rw[List.getElem_range]at q2;exact q2.symm
     subst this;rw[hk]at hd;cases hd;refine⟨_,rfl,g9 (wX (ae 0 rfl) (ae 1 rfl) rfl (by with_unfolding_all rfl)),fun _=>yb (ae 1 rfl) (fD (aj (ae 0 rfl) aw) (by show 1<=sizeLine;decide)) rfl rfl ?_⟩;show(l.map di).length+1<=sizeLine;have:=h3 l (mT hl);rw[aa];omega
   ·cases dd<;>rfl
   ·rw[aa,aa];have:=congrArg List.length e;rw[qr,aa]at this;rw[aa,Cf];show _+(List.filter _ (List.range n)).length<=sizeLine;omega
   ·refine⟨[3],?_⟩;have eT:nW (jS (L.take (j+1)) n)=.ow (List.map tL (jS (L.take j) n)++List.map (fun k=>Tr.ow (List.map Tr.fz (List.map di l++[di (0+((k:Nat):Int))]))) (List.filter (fun k=>!l.contains (0+((k:Nat):Int))) (List.range (jj 0 ((n:Nat):Int).toNat).length))):=by
     rw[e];unfold nW;rw[Cs,gz,aa,Cf];congr 2;refine ma fun k _=>?_
     show Tr.ow _=Tr.ow _;rw[Cs,Cs,gz]
     rfl
    show[_,_,some _,_]=[_,_,some _,_]
    rw[eT]
 ·rw[aa,Mn];exact aF (oG 2 rfl)
abbrev qR:Stmt:=top 61
theorem wz:aZ ["many", "told", "length"] ["many"] (aq qR):=bt
def Pa (dd:List Dv)(t:Tr):Prop:=∃ n:Nat,n<=5/\dd=[di n]/\t=nW (cN n n)
theorem WC:∀ n,n<=5->∀ k,k<=n->(cN n k).length*n<=1000/\∀ l ∈ cN n k,l.length<=100:=by
 have:∀ n:Fin 6,∀ k:Fin (n.val+1),(cN n.val k.val).length*n.val<=1000/\((cN n.val k.val).all fun l=>decide (l.length<=100))=true:=by decide +kernel
 intro n hn k hk;obtain⟨h1,h2⟩:=this ⟨n,by omega⟩ ⟨k,by show k<n+1;omega⟩;exact⟨h1,fun l hl=>by simpa using LM.mp h2 l hl⟩
theorem Wc {f f1:Addr}{fd aI:FuncData}{k:Nat}(F:aV K "all_turns" "all_turns" qR f fd)(T:Txt mg)(YK:Kn P w K mg base ak (k+1) "longer" f1 aI ["lists", "many"] (spT K N7)):aJ P w K mg base ak (k+2) f fd ["many"] (spT K Pa):=by
 refine bD F.d wz (fun dd t h=>by obtain⟨n,_,rfl,_⟩:=h;rfl) fun dd t h=>?_
 obtain⟨n,hn,rfl,rfl⟩:=h;obtain⟨tk,hg⟩:=T.tV;refine⟨_,.inl rfl,?_⟩;refine ax (yv (Et.s (jX (ae 0 rfl) (um (v:=.int 5) hg ⟨_,rfl⟩ rfl))) (fun h=>?_) (fun h=>uo)) ?_
 ·exact absurd (Cn h) (by omega)
 refine ax (aP 1 (Ev.s (fD (aj (fD aw (DO _)) aw) (by show 1<=sizeLine;decide))) (fun _=>wz.nd)) ?_;refine ax (e7 (bp.s (iE T.gL (ae 0 rfl) ⟨by omega,by omega⟩)) (bJ 2 (fun _=>wz.nd)) (fun k=>[some (.fz (di n)),some (nW (cN n k)),none]) rfl (fun _=>rfl) (fun j d hd=>?_)) ?_
 ·have hj:j<n:=by
   have:=(ir.mp hd).1;simpa using this
  obtain⟨b1,b2⟩:=WC n hn j (by omega);refine⟨_,_,rfl,aF (aP 1 (Ev.pk (aG YK (br _) (aj (ae 1 rfl) (aj (ae 0 rfl) aw)) ⟨cN n j,n,?_,b1,by omega,b2,rfl⟩) ?_) (fun _=>wz.nd)),[2],rfl⟩
  ·exact O9 _
  ·show[er (nW (cN n j)),di n]=_;rw[O8]
 ·rw[aa,Cf];exact aF (oG 1 rfl)
theorem MV {x y:Int}:∀ {ws:List V} {i:Nat},ws[i]?=some .aH->iJ (ws.set i (.int x)) y=iJ ws y+if x=y then 1 else 0
 |w::ws,0,h=>by
  cases h
  show(V.int x::ws).countP _=(V.aH::ws).countP _+_;rw[Lo,Lo];have e1:dw (.int x) (.int y)=decide (x=y):=by show(x==y)=_;exact Bool.beq_eq_decide_eq ..
  have e2:dw .aH (.int y)=false:=rfl;rw[e1,e2];by_cases e:x=y<;>simp[e]
 |w::ws,i+1,h=>by
  have:=MV (x:=x) (y:=y) (ws:=ws) (i:=i) h;unfold iJ at this ⊢;show(w::ws.set i (.int x)).countP _=(w::ws).countP _+_;rw[Lo,Lo,this];omega
theorem MX {order gone:LI}{x:Int}{r:LI}(h:fP order gone=x::r):x ∈ order/\x ∉ gone:=by
 have:x ∈ fP order gone:=by rw[h];exact .head _
 obtain⟨a,b⟩:=AM.mp this;exact⟨a,by simpa using b⟩
theorem YL {n:Nat}{o:LI}(ho:∀ x ∈ o,0<=x/\x<n):∀ x ∈ cP n o,0<=x/\x<=n:=by
 intro x hx;unfold cP at hx;rcases wb.mp hx with hx | hx
 ·rcases wb.mp hx with hx | hx
  ·have:=ho x hx;omega
  ·have:=rf.mp hx;omega
 ·unfold lU at hx;obtain⟨k,hk,rfl⟩:=i4.mp hx;have:=VT.mp (AM.mp hk).1;omega
theorem MY (c:LI)(os:LL){i:Nat}:∀ (ts:LI) (ws:List V),(∀ a ∈ ts,a.toNat ≠ i)->(ts.foldl (jY c os) ws)[i]?=ws[i]?
 |[],_,_=>rfl
 |a::ts,ws,h=>by
  rw[akn,MY c os ts _ fun b hb=>h b (.tail _ hb)];unfold jY;rw[BY (h a (.head _))]
theorem XU {c:LI}{os:LL}{ts:LI}(hp:ts.Perm (ah os.length)){j:Nat}{a:Int}(ha:ts[j]?=some a):(cI c os ts)[a.toNat]?=some (.int (kN c (os.getD a.toNat []) (cI c os (ts.take j)))):=by
 have hj:j<ts.length:=(ir.mp ha).1;have e:ts=(ts.take j++[a])++ts.drop (j+1):=by rw[<- fA ha,aj9]
 have nd:ts.Nodup:=hp.nodup_iff.mpr (oh _);have r:∀ x ∈ ts,0<=x/\x<os.length:=fun x hx=>aW.mp (hp.mem_iff.mp hx)
 have ra:=r a (mT ha);have off:∀ b ∈ ts.drop (j+1),b.toNat ≠ a.toNat:=fun b hb z=>by
  have rb:=r b (List.mem_of_mem_drop hb);have:b=a:=by omega
  subst this;rw[e]at nd;exact(r8.mp nd).2.2 b (by simp) b hb rfl
 have e2:cI c os ts=(ts.drop (j+1)).foldl (jY c os) (cI c os (ts.take j++[a])):=by
  conv=>lhs;rw[e]
  unfold cI;rw[ajr]
 rw[e2,MY c os _ _ off,wD];unfold jY;rw[LS (by rw[mV];omega)]
theorem YM {c:LI}{os:LL}(ok:gq c os){ts:LI}(hp:ts.Perm (ah os.length)):∀ j,j<=ts.length->∀ y:Int,0<=y->y<c.length->((iJ (cI c os (ts.take j)) y:Nat):Int)<=(c[y.toNat]?).getD 0:=by
 intro j
 induction j with
 |zero =>
  intro _ y y0 y1;have e:iJ (cI c os (ts.take 0)) y=0:=by
   show iJ (List.replicate os.length V.aH) y=0;unfold iJ;rw[List.countP_eq_zero];intro v hv;rw[List.eq_of_mem_replicate hv];simp[dw]
  rw[e,ab (by omega)];exact(ok.cnt _ (MW (by omega))).1
 |succ j ih =>
  intro hj y y0 y1;have:=ih (by omega) y y0 y1;obtain⟨a,ha⟩:∃ a,ts[j]?=some a:=⟨_,ab (by omega)⟩
  have ra:=aW.mp (hp.mem_iff.mp (mT ha));have nd:ts.Nodup:=hp.nodup_iff.mpr (oh _);have nin:a ∉ ts.take j:=fun z=>by
   have e:ts=(ts.take j++[a])++ts.drop (j+1):=by rw[<- fA ha,aj9]
   rw[e]at nd;exact(r8.mp (r8.mp nd).1).2.2 a z a (by simp) rfl
  have aH:(cI c os (ts.take j))[a.toNat]?=some .aH:=by
   refine(MU c os (ts.take j) (fun x hx=>aW.mp (hp.mem_iff.mp (aba hx))) a.toNat (by omega)).1 ?_;rw[show((a.toNat:Nat):Int)=a by omega];exact nin
  rw[fA ha,wD];unfold jY;rw[MV aH];by_cases e:kN c (os.getD a.toNat []) (cI c os (ts.take j))=y
  ·rw[lp e];obtain⟨x,r,hx⟩:=CU c (os.getD a.toNat []) (cI c os (ts.take j));have iN:kN c (os.getD a.toNat []) (cI c os (ts.take j))=x:=by unfold kN;rw[hx];rfl
   have ng:=(MX hx).2;rw[<- iN,e]at ng;have:((iJ (cI c os (ts.take j)) y:Nat):Int) ≠ (c[y.toNat]?).getD 0:=fun z=>ng (YH y0 y1 z)
   omega
  ·rw[mf e];exact this
def fK (D:LL):LL:=D.foldl (fun acc d=>if d ∈ acc then acc else acc++[d]) []
theorem wA (D:LL)(d:LI):fK (D++[d])=if d ∈ fK D then fK D else fK D++[d]:=by unfold fK;rw[ajr];rfl
theorem snoc_ind {α:Type}{p:List α->Prop}(h0:p [])(h1:∀ l x,p l->p (l++[x])):∀ l,p l:=by
 have gen:∀ n (l:List α),l.length=n->p l:=by
  intro n
  induction n with
  |zero=>intro l h;rw[ajP.mp h];exact h0
  |succ n ih =>
   intro l h;rcases ajk l with rfl | ⟨l',x,rfl⟩
   ·exact h0
   ·rw[Zl]at h ⊢;exact h1 l' x (ih l' (by simpa using h))
 exact fun l=>gen l.length l rfl
theorem t4 {x:LI}:∀ D,x ∈ fK D ↔ x ∈ D:=by
 refine snoc_ind (by simp[fK]) fun D d ih=>?_
 rw[wA];split
 ·rename_i h
  rw[ih]
  constructor
  ·exact fun z=>nv _ z
  ·intro z;rcases wb.mp z with z | z
   ·exact z
   ·rw[rf.mp z];exact ih.mp (by rw[<- rf.mp z]at h;exact h) |> fun q=>by rw[rf.mp z]at q;exact q
 ·rw[wb,wb,ih]
theorem XW:∀ D,(fK D).Nodup:=by
 refine snoc_ind List.nodup_nil fun D d ih=>?_
 rw[wA];split
 ·exact ih
 ·rename_i h
  exact r8.mpr ⟨ih,by simp,fun x hx y hy e=>h (by rw[rf.mp hy]at e;rw[<- e];exact hx)⟩
def gW {κ:Type}(f:LI->κ)(D:LL):List (κ×V):=(fK D).map fun d=>(f d,V.int (D.count d:Nat))
section
variable {κ:Type} [DecidableEq κ] {f:LI->κ}
theorem Pb (inj:∀ a b,f a=f b->a=b)(g:LI->V)(x:LI):∀ l:LL,((l.map fun d=>(f d,g d)).any fun kv=>decide (kv.1=f x))=decide (x ∈ l)
 |[] => rfl
 |d::l=>by
  rw[i8,Pf,Pb inj g x l];by_cases e:d=x
  ·subst e;simp
  ·have:f d ≠ f x:=fun z=>e (inj _ _ z)
   simp[this,Ne.symm e]
theorem DF (inj:∀ a b,f a=f b->a=b)(g:LI->V)(x:LI):∀ l:LL,eU (l.map fun d=>(f d,g d)) (f x)=if x ∈ l then some (g x)else none
 |[] => rfl
 |d::l=>by
  have ih:=DF inj g x l;unfold eU at ih ⊢;rw[i8,ai0];by_cases e:d=x
  ·subst e;simp
  ·have:f d ≠ f x:=fun z=>e (inj _ _ z)
   rw[tw this];simp only[ih,gr,Ne.symm e,false_or]
theorem abf (inj:∀ a b,f a=f b->a=b)(D:LL)(d:LI):putK (gW f D) (f d) (.int (D.count d+1:Nat))=gW f (D++[d]):=by
 unfold putK gW;rw[Pb inj];have hc:∀ y,(D++[d]).count y=if y=d then D.count d+1 else D.count y:=fun y=>by
  rw[List.count_append,List.count_singleton];by_cases e:y=d
  ·subst e;simp
  ·rw[mf e,mf (by simpa using Ne.symm e)];omega
 rw[wA];by_cases h:d ∈ fK D
 ·rw[lp (u4 h),lp h,gz];refine ma fun y _=>?_
  show(if f y=f d then _ else _)=_;rw[hc];by_cases e:y=d
  ·subst e;rw[lp rfl,lp rfl]
  ·rw[mf fun z=>e (inj _ _ z),mf e]
 ·rw[mf (by rw[tw h];decide),mf h,Cs];congr 1
  ·refine ma fun y hy=>?_
   rw[hc,mf fun e=>h (by rw[<- e];exact hy)]
  ·rw[i8,ai5,hc,lp rfl]
theorem abg (inj:∀ a b,f a=f b->a=b)(D:LL)(d:LI):(eU (gW f D) (f d)).getD (.int 0)=.int (D.count d:Nat):=by
 unfold gW;rw[DF inj];by_cases h:d ∈ fK D
 ·rw[lp h];rfl
 ·rw[mf h,akE.mpr fun z=>h ((t4 D).mpr z)];rfl
theorem acg (inj:∀ a b,f a=f b->a=b){D:LL}{d:LI}(h:d ∈ D):eU (gW f D) (f d)=some (.int (D.count d:Nat)):=by
 unfold gW;rw[DF inj,lp ((t4 D).mpr h)]
end
theorem Bs (D:LL):(fK D).length<=D.length:=by
 refine snoc_ind (p:=fun D=>(fK D).length<=D.length) (br _) (fun D d ih=>?_) D;rw[wA,qr];split
 ·omega
 ·rw[qr];simp;omega
end
section
variable {P:Program}{w:World}{K:Frag}{mg:Str->Option Value}{base:Heap}
theorem LQ:∀ n,n<=5->∀ l ∈ cN n n,l.Perm (ah n):=by
 have:∀ n:Fin 6,((cN n.val n.val).all fun l=>l.isPerm (ah n.val))=true:=by decide +kernel
 intro n hn l hl;exact List.isPerm_iff.mp (LM.mp (this ⟨n,by omega⟩) l hl)
theorem wO:∀ n,n<=5->1<=(cN n n).length/\(cN n n).length<=120:=by
 have:∀ n:Fin 6,1<=(cN n.val n.val).length/\(cN n.val n.val).length<=120:=by decide +kernel
 intro n hn;exact this ⟨n,by omega⟩
def o8 (d:LI):LL->LL
 |[] => [d]
 |x::l=>if So.lexLt x d=true then x::o8 d l else d::x::l
def oV (l:LL):LL:=l.foldr o8 []
theorem BM (d:LI):∀ l,(o8 d l).Perm (d::l)
 |[] => .refl _
 |x::l=>by
  unfold o8;split
  ·exact((BM d l).cons x).trans (List.Perm.swap d x l)
  ·exact .refl _
theorem t5:∀ l,(oV l).Perm l
 |[] => .refl _
 |x::l=>(BM x (oV l)).trans ((t5 l).cons x)
def iA (x y:LI):Prop:=So.lexLt y x=false
theorem XX {a b c:LI}(h1:iA a b)(h2:iA b c):iA a c:=by
 unfold iA at *;cases h:So.lexLt c a with
 |false=>rfl
 |true =>
  rcases So.DC c b a h with z | z
  ·rw[h2]at z;cases z
  ·rw[h1]at z;cases z
theorem abh {a b:LI}(h:So.lexLt a b=true):iA a b:=by
 unfold iA;cases z:So.lexLt b a with
 |false=>rfl
 |true =>
  have:=So.DB a b a h z;rw[So.CP]at this;cases this
theorem N8 (d:LI):∀ l,l.Pairwise iA->(o8 d l).Pairwise iA
 |[],_=>by simp[o8]
 |x::l,h=>by
  have hx:=ajd.mp h;unfold o8;split
  ·rename_i aT
   refine ajd.mpr ⟨fun y hy=>?_,N8 d l hx.2⟩;rcases gr.mp ((BM d l).mem_iff.mp hy)with rfl | z
   ·exact abh aT
   ·exact hx.1 y z
  ·rename_i aT
   have hd:iA d x:=by unfold iA;simpa using aT
   refine ajd.mpr ⟨fun y hy=>?_,h⟩;rcases gr.mp hy with rfl | z
   ·exact hd
   ·exact XX hd (hx.1 y z)
theorem MZ:∀ l,(oV l).Pairwise iA
 |[] => .nil
 |x::l=>N8 x _ (MZ l)
theorem Lj:∀ {a b:LL},a.Perm b->a.Pairwise iA->b.Pairwise iA->a=b
 |[],b,p,_,_=>(List.nil_perm.mp p).symm
 |x::a,[],p,_,_=>by have:=p.length_eq;cases this
 |x::a,y::b,p,ha,hb=>by
  have pa:=ajd.mp ha;have pb:=ajd.mp hb;have e:x=y:=by
   have h1:iA x y\/x=y:=by
    rcases gr.mp (p.mem_iff.mpr (.head _))with z | z
    ·exact .inr z.symm
    ·exact .inl (pa.1 y z)
   have h2:iA y x\/x=y:=by
    rcases gr.mp (p.mem_iff.mp (.head _))with z | z
    ·exact .inr z
    ·exact .inl (pb.1 x z)
   rcases h1 with h1 | h1
   ·rcases h2 with h2 | h2
    ·exact So.CQ x y h2 h1
    ·exact h2
   ·exact h1
  subst e;rw[Lj (p.cons_inv) pa.2 pb.2]
def df (c:LI)(os:LL):LL:=(cN os.length os.length).map (dJ c os)
def sO (c:LI)(os:LL):LL:=oV (fK (df c os))
end
section
variable {P:Program}{w:World}{K:Frag}{mg:Str->Option Value}{base:Heap}
abbrev cM:Stmt:=top 62
theorem tX:aZ ["table", "lists", "often", "turns", "deal"] ["table"] (aq cM):=bt
def yW (c:LI)(os:LL):Tr:=.ow ((sO c os).map fun d=>.tp [tF (fW ((cN os.length os.length).length:Nat) ((df c os).count d:Nat)),aU d])
def M0 (dd:List Dv)(t:Tr):Prop:=∃ c os,gq c os/\os.length<=4/\dd=[gP c os]/\t=yW c os
abbrev iB (d:LI):List Key:=d.map Sum.inl
theorem DG (a b:LI)(h:iB a=iB b):a=b:=by
 have:=congrArg (List.map fun k:Key=>match k with | .inl n=>n | .inr _=>0) h;unfold iB at this;rw[gz,gz]at this;have e:∀ l:LI,l.map ((fun k:Key=>match k with | .inl n=>n | .inr _=>0) ∘ Sum.inl)=l:=fun l=>(ma (g:=id) fun _ _=>rfl).trans (ak8 l)
 rwa [e,e]at this
theorem Qn (d:LI):(iB d).map kV=d.map V.int:=by unfold iB;rw[gz];rfl
theorem Wd {L:LL}{g:LI->LI}{i:Nat}{ts:LI}(h:L[i]?=some ts):(L.map g).take (i+1)=(L.map g).take i++[g ts]:=by
 rw[<- List.map_take,<- List.map_take,fA h,Cs];rfl
abbrev eX:List Str:=["table", "lists", "often", "turns", "deal"]
def acY:Stmt->Expr
 | .Assign _ e _=>e
 |_=>.Constant .none 0 ⟨0,0,0,0⟩
def acZ:Stmt->List Stmt
 | .For _ _ b _ _=>b
 |_=>[]
abbrev yX (j:Nat):Stmt:=(aM cM).getD j (.Pass ⟨0,0,0,0⟩)
abbrev eTM:Expr:=acY ((acZ (yX 2)).getD 0 (.Pass ⟨0,0,0,0⟩))
theorem ach {ι:Type}{F:bc ι}{e:Expr}{ρ:En}{t:Tr}{σ:St}{G H:Hp}{Q:VK}(h:Ev F e ρ t)(s:au G H)(r:cj F.K G ρ σ)(kk:Kv F.K G H t Q):uE F e σ H Q:=let ⟨τ,p,q⟩:=h;⟨τ,p,q σ G H Q s r kk⟩
theorem YN {K:Frag}{G:Hp}{d0 d1 d3:Dv}{v0 v1 v3:V}{o2 o4:Option V}(h0:Hv K G d0 v0)(h1:Hv K G d1 v1)(h3:Hv K G d3 v3):cj K G [some (.fz d0),some (.fz d1),none,some (.fz d3),none] [some v0,some v1,o2,some v3,o4]:=fun j d h=>by
 match j,h with
 |0,h=>cases h;exact⟨v0,rfl,h0⟩
 |1,h=>cases h;exact⟨v1,rfl,h1⟩
 |3,h=>cases h;exact⟨v3,rfl,h3⟩
 |2,h=>cases h
 |4,h=>cases h
 |n+5,h=>cases h
theorem abi {f:Addr}{k:Nat}:∃ τ:TS,(∀ i,PS ((cC P w K mg base eX "turn_mix" (aq cM) f (k+2)).cx i) (yX 1) τ)/\∀ D σ H,(∀ p,H p=none->D.nx (σ.set 2 (some (.ref p))) (upd H p (.dT [])))->τ D σ H :=
 ⟨_,fun i=>oK (i:=2) tX.nd rfl (Or.inr rfl) Yx,fun D σ H h=>h⟩
theorem abj {f f2:Addr}{fd2:FuncData}{k:Nat}{c:LI}{os L:LL}(T:Txt mg)(BO:Kn P w K mg base ak (k+2) "deal_by" f2 fd2 ["table", "turns"] (spT K CV))(ok:gq c os)(Lp:∀ ts ∈ L,ts.Perm (ah os.length))(Ll:L.length<=120) :
  ∃ τ:TS,(∀ i,PS ((cC P w K mg base eX "turn_mix" (aq cM) f (k+2)).cx i) (yX 2) τ)/\∀ (D:Ends) (v0:V) (l1 p:Addr) (o3 o4:Option V) (G0 H0 G H:Hp) (vs:List V),Step G0 H0 G H->Hv K G (gP c os) v0->aL K G l1 vs->bC K G (L.map dis) vs->H0 p=none->G p=none->H p=some (.dT []) ->
   (∀ o3 o4 G' H',Step G0 H0 G' H'->au G G'->G' p=none->H' p=some (.dT (gW iB (L.map (dJ c os))))->D.nx [some v0,some (.ref l1),some (.ref p),o3,o4] H')->τ D [some v0,some (.ref l1),some (.ref p),o3,o4] H:=by
 refine⟨sR (sC K (bU 1)) (cO 3) (je (j5 (uE (cC P w K mg base eX "turn_mix" (aq cM) f (k+2)) eTM) (cO 4)) (Eg (bU 2) (bU 4) (iu (mG fun i j=>.int (i+j)) (DA (bU 2) (bU 4) (tC (.int 0))) (tC (.int 1))))),fun i=>?_,?_⟩
 ·exact m7 (X:=(cC P w K mg base eX "turn_mix" (aq cM) f (k+2)).cx i) (tg:=.Name "turns" _) (iter:=.Name "lists" _) (yT rfl) rfl (rM (X:=(cC P w K mg base eX "turn_mix" (aq cM) f (k+2)).cx i) (pv (X:=(cC P w K mg base eX "turn_mix" (aq cM) f (k+2)).cx i) (x := "lists") 1)) (gK (X:=(cC P w K mg base eX "turn_mix" (aq cM) f (k+2)).cx i) (i:=3) tX.nd rfl (Or.inl rfl)) (eY (oK (X:=(cC P w K mg base eX "turn_mix" (aq cM) f (k+2)).cx i) (i:=4) tX.nd rfl (Or.inl rfl) (oS i)) (fB (CN (X:=(cC P w K mg base eX "turn_mix" (aq cM) f (k+2)).cx i) (D8 i.hr) (pv (X:=(cC P w K mg base eX "turn_mix" (aq cM) f (k+2)).cx i) (x := "often") 2) (pv (X:=(cC P w K mg base eX "turn_mix" (aq cM) f (k+2)).cx i) (x := "deal") 4) (D5 (X:=(cC P w K mg base eX "turn_mix" (aq cM) f (k+2)).cx i) OG (Yy (X:=(cC P w K mg base eX "turn_mix" (aq cM) f (k+2)).cx i) (D8 i.hr) (pv (X:=(cC P w K mg base eX "turn_mix" (aq cM) f (k+2)).cx i) (x := "often") 2) (pv (X:=(cC P w K mg base eX "turn_mix" (aq cM) f (k+2)).cx i) (x := "deal") 4) Df ⟨rfl,rfl,rfl,rfl⟩) Df) rfl)))
 intro D v0 l1 p o3 o4 G0 H0 G H vs st h0 sq hv zB hpG hpd fin;have hl:vs.length=L.length:=by rw[<- hv.length,aa]
 refine L4 (a:=l1) (xs:=vs) rfl (st.s.seq sq) (fun i aB H'=>∃ o3 o4 G',aB=[some v0,some (.ref l1),some (.ref p),o3,o4]/\Step G0 H0 G' H'/\au G G'/\G' p=none/\H' p=some (.dT (gW iB ((L.map (dJ c os)).take i)))) ⟨o3,o4,G,rfl,st,au.refl _,hpG,hpd⟩ (fun i aB H' _ z=>?_) (fun i x aB H' hx z=>?_) (fun aB H' z=>?_)
 ·obtain⟨_,_,G',_,s',g',_⟩:=z;exact(g'.trans s'.s).seq sq
 ·obtain⟨o3,o4,G',rfl,s',g',np,hd⟩:=z;obtain⟨ts,GR⟩:∃ ts,L[i]?=some ts:=⟨_,ab (by have:=(ir.mp hx).1;omega)⟩
  have hxv:Hv K G (dis ts) x:=by
   obtain⟨v,e1,e2⟩:=hv.get (show(L.map dis)[i]?=some (dis ts) by rw[ee,GR];rfl);rw[hx]at e1;cases e1;exact e2
  have htm:=mT GR;dsimp only[cO,je,j5,List.set];refine ach (ρ:=[some (.fz (gP c os)),some (.fz (.lst (L.map dis))),none,some (.fz (dis ts)),none]) (t:=.tp ((dJ c os ts).map fun n=>.fz (di n))) (Ev.to (YG T.CT (aG BO (br _) (aj (ae 0 rfl) (aj (ae 3 rfl) aw)) ⟨c,os,ts,ok,Lp ts htm,rfl,rfl⟩) (eZ _)) (by rw[m3])) s'.s (YN (h0.mono g') ⟨l1,vs,rfl,g'.seq sq,hv.mono g'⟩ (hxv.mono g')) fun v G2 H2 fq bb ow nw=>?_
  obtain⟨b,ws,fZ,rfl,hb,jK,_⟩:=ow;obtain⟨rfl,rfl⟩:=MS jK;have hd2:=bb.h _ _ hd;have dQ:H2 b=some (.tup ((iB (dJ c os ts)).map kV)):=by rw[Qn];exact hb
  have GU:G2 p=none:=by
   cases q:G2 p with
   |none=>rfl
   |some u =>
    have:=bb.n p np (by rw[q];exact fun z=>nomatch z);rw[hd]at this;cases this
  have lim:((gW iB ((L.map (dJ c os)).take i)):List (List Key×V)).length<sizeLine:=by
   have:=Bs ((L.map (dJ c os)).take i);have h2:((L.map (dJ c os)).take i).length<=120:=by rw[NG,aa];omega
   have big : 1000<sizeLine:=by decide
   unfold gW;rw[aa];omega
  have eg:=abg (κ:=List Key) DG ((L.map (dJ c os)).take i) (dJ c os ts);have ep:=abf (κ:=List Key) DG ((L.map (dJ c os)).take i) (dJ c os ts);dsimp only[cO,List.set,Eg,iu,DA,bU,tC];refine⟨_,rfl,p,rfl,.inr ⟨_,.inl hd2⟩,_,rfl,_,ic.t hd2 dQ,_,_,eg,rfl,?_⟩;refine⟨_,rfl,_,rfl,p,_,rfl,mh.t hd2 dQ lim,some x,some (.ref b),G2,rfl,?_,g'.trans bb.g,GU,?_⟩
  ·have zW:=s'.trans bb;refine⟨zW.g,fun a o e=>?_,fun a o e=>?_,zW.n⟩
   ·rw[aQ fun z=>by subst z;rw[zB]at e;cases e];exact zW.h a o e
   ·rw[aQ fun z=>by subst z;rw[GU]at e;cases e];exact zW.s a o e
  ·rw[bO,Wd GR,<- ep]
   rfl
 ·obtain⟨o3,o4,G',rfl,s',g',np,hd⟩:=z;rw[hl,Mc (by rw[aa];exact br _)]at hd;exact fin o3 o4 G' H' s' g' np hd
def Qo (K:Frag):List V->Hp->VK->Prop:=fun xs H Q=>∃ p ys,xs=[.ref p]/\(aL K H p ys\/cW K H p ys)/\Q (.int ys.length) H
def Qp (K:Frag):List V->Hp->VK->Prop:=fun xs H Q=>∃ p ys,xs=[.ref p]/\(aL K H p ys\/cW K H p ys)/\∀ l,H l=none->Q (.ref l) (upd H l (.lst ys))
theorem VO {α β:Type}(l:List α)(g : α->β)(e : α):(List.range l.length).map (fun i=>g (l.getD i e))=l.map g:=by
 refine IF fun n=>?_
 rw[ee,ee];by_cases hn:n<l.length
 ·rw[CS hn,ab hn];show some (g (l.getD n e))=some (g l[n]);rw[ba,ab hn];rfl
 ·rw[nt (by rw[Cf];omega),nt (by omega)];rfl
theorem Pg {K:Frag}{G H:Hp}:∀ d:LI,aE K G H (d.map fun n=>Tr.fz (di n)) (d.map V.int) []
 |[] => ⟨rfl,rfl⟩
 |n::d=>⟨.int n,d.map V.int,[],[],rfl,rfl,⟨rfl,rfl,rfl⟩,Pg d⟩
theorem abk {f f3:Addr}{eE:FuncData}{k:Nat}{L D0:LL}(T:Txt mg)(cq:Kn P w K mg base ak (k+2) "fraction" f3 eE ["top", "bottom"] (spT K gw))(L1 : 1<=L.length)(Ll:L.length<=120)(ne:∀ d ∈ D0,d ≠ [])(Dl:D0.length<=60)(d6:∀ d ∈ D0,d.length<=6) :
  ∃ τ:TS,(∀ i,PS ((cC P w K mg base eX "turn_mix" (aq cM) f (k+2)).cx i) (yX 3) τ)/\∀ (D:Ends) (v0:V) (l1 p:Addr) (o3 o4:Option V) (G0 H0 G H:Hp) (vs:List V),Step G0 H0 G H->aL K G l1 vs->bC K G (L.map dis) vs->H p=some (.dT (gW iB D0)) ->
   (∀ v G' H' fq,Step G0 H0 G' H'->Ow K G' H' (.ow ((oV (fK D0)).map fun d=>.tp [tF (fW (L.length:Nat) (D0.count d:Nat)),aU d])) v fq->Nw H0 G' fq->D.rt v H')->τ D [some v0,some (.ref l1),some (.ref p),o3,o4] H:=by
 refine⟨yI (zh (sC K (ke N6 (dc (bU 2) dO))) (cO 0) xF (sS (dc (sD (spT K gw) [] E0 (dc (Ef (bU 1) (bU 0)) (dc (ke (Qo K) (dc (bU 2) dO)) dO))) (dc (ke (Qp K) (dc (bU 0) dO)) dO))) ["deal"] [2,1]),fun i=>?_,?_⟩
 ·refine jT (X:=(cC P w K mg base eX "turn_mix" (aq cM) f (k+2)).cx i) (P7 (X:=(cC P w K mg base eX "turn_mix" (aq cM) f (k+2)).cx i) (own:=["deal"]) (fr:=[2,1]) (bV) rfl (rM (X:=(cC P w K mg base eX "turn_mix" (aq cM) f (k+2)).cx i) (om (X:=(cC P w K mg base eX "turn_mix" (aq cM) f (k+2)).cx i) (VJ rfl) rfl T.xg wM (aX (pv (X:=(cC P w K mg base eX "turn_mix" (aq cM) f (k+2)).cx i) (x := "often") 2) cu))) (fun C s H ex pn=>gK (i:=0) (by show List.Nodup (["deal", "often", "lists"]:List Str);decide) rfl (Or.inl rfl)) (fun C s H ex pn pins s1 aN H1 Q I h=>Qa pins s1 aN H1 Q I h) (fun C s H ex pn=>?_));exact m8 (aX (sI (x := "fraction") cq i.hr rfl (aX (ZG (D8 i.hr) (pv (x := "often") 1) (pv (x := "deal") 0) (fun _ _=>rfl)) (aX (om Lf rfl T.bQ Dp (aX (pv (x := "lists") 2) cu)) cu))) (aX (wK Lg rfl T.jA rO (aX (pv (x := "deal") 0) cu)) cu))
 intro D v0 l1 p o3 o4 G0 H0 G H vs st sq hv hd fin;have big : 1000<sizeLine:=by decide
 have hl:vs.length=L.length:=by rw[<- hv.length,aa]
 have fl:=Bs D0;refine⟨_,rfl,p,gW iB D0,fK D0,rfl,hd,?_,fun d hd=>ne d ((t4 D0).mp hd),by omega,fun l ps nV hps pm pw=>⟨l,rfl,⟨_,.inl (.inl bO)⟩,fun acc fe=>?_⟩⟩
 ·unfold gW;rw[gz];rfl
 have ms:ps.map (·.2)=oV (fK D0):=Lj (pm.trans (t5 _).symm) pw (MZ _);have pl:ps.length<=120:=by
  have:=pm.length_eq;rw[aa]at this;omega
 have s1:Step G0 H0 G (upd H l (.lst (ps.map fun q=>.ref q.1))):=st.trans (.hW st.s nV);have Gr:upd H l (.lst (ps.map fun q=>.ref q.1)) p=some (.dT (gW iB D0)):=by rw[aQ fun z=>by subst z;rw[hd]at nV;cases nV];exact hd
 refine abe (f:=fun i=>.tp [tF (fW (L.length:Nat) (D0.count ((ps.getD i (0,[])).2):Nat)),aU (ps.getD i (0,[])).2]) s1.s bO fe (by rw[aa];omega) (fun i x hx G2 H2 Q g2 s2 h2 kv=>?_) (fun v G' H' fq az ow nw=>?_)
 ·rw[ee]at hx;obtain⟨⟨b,d⟩,hq⟩:∃ q,ps[i]?=some q:=by
   cases e:ps[i]? with
   |none=>rw[e]at hx;cases hx
   |some q=>exact⟨q,rfl⟩
  rw[hq]at hx;cases hx;have hgd:ps.getD i (0,[])=(b,d):=by rw[ba,hq];rfl
  rw[hgd]at kv;have Q6:(b,d) ∈ ps:=mT hq;have mL:upd H l (.lst (ps.map fun q=>.ref q.1)) b=some (.tup (d.map V.int)):=by
   have:=hps (b,d) Q6;rw[aQ fun z=>by subst z;rw[this]at nV;cases nV];exact this
  have hdD:d ∈ D0:=(t4 D0).mp (pm.mem_iff.mp (i4.mpr ⟨(b,d),Q6,rfl⟩));have Tn:=h2 _ _ mL;have hd2:=h2 _ _ Gr;have dQ:H2 b=some (.tup ((iB d).map kV)):=by rw[Qn];exact Tn
  have gV:eU (gW iB D0) (iB d)=some (.int (D0.count d:Nat)):=acg (κ:=List Key) DG hdD;show sS _ [some (.ref b),some (.ref p),some (.ref l1)] H2 Q;dsimp only[sS,dc,dO,sD,Ef,bU,ke,Qo,Qp];refine⟨_,rfl,_,rfl,p,_,rfl,gV ▸ ic.t hd2 dQ,_,rfl,l1,vs,rfl,.inl ((g2.trans s2).seq sq),?_⟩;refine⟨G2,[di (D0.count d:Nat),di (vs.length:Nat)],tF (fW (L.length:Nat) (D0.count d:Nat)),s2,?_,⟨_,_,by omega,?_,rfl,by rw[hl];rfl⟩,fun v3 G3 H3 f3 s3 o3 w3=>?_⟩
  ·exact⟨_,_,rfl,⟨rfl,rfl⟩,_,_,rfl,⟨rfl,rfl⟩,rfl⟩
  ·rw[hl];exact EU (show((L.length:Nat):Int).natAbs<=2 ^ 70 by omega) (by decide)
  obtain⟨rfl,hv3⟩:=o3;refine⟨_,rfl,b,d.map V.int,rfl,.inr (.inl (.inl (s3.h _ _ Tn))),fun l2 fV=>⟨by show 2<=sizeLine;decide,fun t2 zX=>?_⟩⟩;have Q7:H3 t2=none:=by
   by_cases z:t2=l2
   ·rw[z];exact fV
   ·rwa [aQ z]at zX
  have ne2:t2 ≠ l2:=fun z=>by rw[z,bO]at zX;cases zX
  have s4:Step G2 H2 G3 (upd (upd H3 l2 (.lst (d.map V.int))) t2 (.tup [v3,.ref l2])):=(s3.trans (.hW s3.s fV)).trans (.hW (s3.s.trans (au.new fV)) zX);refine kv (.ref t2) G3 _ [t2,l2] s4 ⟨t2,[v3,.ref l2],[l2],rfl,bO,⟨v3,[.ref l2],[],[l2],rfl,rfl,⟨rfl,hv3⟩,.ref l2,[],[l2],[],rfl,rfl,⟨l2,d.map V.int,[],rfl,?_,?_,rfl⟩,rfl,rfl⟩,rfl⟩ ⟨fun a ha=>?_,fun a ha=>?_,?_⟩
  ·rw[aQ (Ne.symm ne2),bO]
  ·exact Pg d
  ·rcases gr.mp ha with rfl | z
   ·exact s3.h.free Q7
   ·rw[rf.mp z];exact s3.h.free fV
  ·rcases gr.mp ha with rfl | z
   ·exact s3.s.free Q7
   ·rw[rf.mp z];exact s3.s.free fV
  ·simp[ne2]
 ·have e0:(List.range (ps.map fun q=>V.ref q.1).length).map (fun i=>Tr.tp [tF (fW (L.length:Nat) (D0.count ((ps.getD i (0,[])).2):Nat)),aU (ps.getD i (0,[])).2])=ps.map fun q=>Tr.tp [tF (fW (L.length:Nat) (D0.count q.2:Nat)),aU q.2]:=by
   rw[aa];exact VO ps (fun q=>Tr.tp [tF (fW (L.length:Nat) (D0.count q.2:Nat)),aU q.2]) (0,[])
  rw[e0]at ow;have e:(ps.map fun q=>Tr.tp [tF (fW (L.length:Nat) (D0.count q.2:Nat)),aU q.2])=(oV (fK D0)).map fun d=>.tp [tF (fW (L.length:Nat) (D0.count d:Nat)),aU d]:=by rw[<- ms,gz];rfl
  rw[e]at ow;exact fin v G' H' fq (s1.trans az) ow ⟨fun a ha=>s1.h.free (nw.n a ha),nw.g,nw.d⟩
theorem YQ:∀ n,n<=4->(cN n n).length<=24:=by
 have:∀ n:Fin 5,(cN n.val n.val).length<=24:=by decide +kernel
 intro n hn;exact this ⟨n,by omega⟩
theorem WD {f f1 f2 f3:Addr}{fd aI fd2 eE:FuncData}{k:Nat}(F:aV K "turn_mix" "turn_mix" cM f fd)(T:Txt mg)(WG:Kn P w K mg base ak (k+2) "all_turns" f1 aI ["many"] (spT K Pa))(BO:Kn P w K mg base ak (k+2) "deal_by" f2 fd2 ["table", "turns"] (spT K CV))(cq:Kn P w K mg base ak (k+2) "fraction" f3 eE ["top", "bottom"] (spT K gw)):aJ P w K mg base ak (k+3) f fd ["table"] (spT K M0):=by
 refine bD F.d tX (fun dd t h=>by obtain⟨_,_,_,_,rfl,_⟩:=h;rfl) fun dd t h=>?_
 obtain⟨c,os,ok,o4,rfl,rfl⟩:=h;have o5:os.length<=5:=by omega
 refine⟨_,.inl rfl,?_⟩;have big : 1000<sizeLine:=by decide
 obtain⟨L,eL⟩:∃ L,L=cN os.length os.length:=⟨_,rfl⟩
 have Ll:=wO os.length o5;have L24:=YQ os.length o4;have Lp:∀ ts ∈ L,ts.Perm (ah os.length):=fun ts h=>LQ os.length o5 ts (eL ▸ h)
 rw[<- eL]at Ll L24;have eD:df c os=L.map (dJ c os):=by unfold df;rw[eL]
 refine ax (aP 1 (Ev.s (Ev.as (d:=.lst (L.map dis)) (aG WG (br _) (aj (Ev.to (t':=ti (os.length:Nat)) (bS T.bQ (aY (d:=.lst (os.map dis)) (ae 0 rfl) av rfl rfl) (.inl rfl)) (by rw[aa])) aw) ⟨os.length,o5,rfl,rfl⟩) (by rw[eL];exact O8 _))) (fun _=>tX.nd)) ?_;show bw _ _ [some (.fz (gP c os)),some (.fz (.lst (L.map dis))),none,none,none] _;obtain⟨τ1,p1,q1⟩:=abi (P:=P) (w:=w) (K:=K) (mg:=mg) (base:=base) (f:=f) (k:=k);obtain⟨zM,p2,q2⟩:=abj (f:=f) (L:=L) T BO ok Lp (by omega);have L1 : 1<=L.length:=by omega
 have dl:∀ d ∈ L.map (dJ c os),d.length=os.length:=fun d h=>by
  obtain⟨ts,_,rfl⟩:=i4.mp h;unfold dJ;rw[aa,mV]
 obtain⟨τ3,p3,q3⟩:=abk (f:=f) (L:=L) (D0:=L.map (dJ c os)) T cq L1 (by omega) (fun d h z=>by have:=dl d h;rw[z]at this;have:=ok.o1;simp at *;omega) (by rw[aa];omega) (fun d h=>by have:=dl d h;omega);refine⟨je τ1 (je zM τ3),fun i=>eY (p1 i) (eY (p2 i) (fB (p3 i))),fun D σ G0 H0 G H r post=>?_⟩;obtain⟨fp,r⟩:=r;obtain⟨v0,_,fa,_,rfl,rfl,⟨rfl,h0⟩,v1,_,fb,_,rfl,rfl,⟨rfl,l1,vs,rfl,sq,To⟩,o2,_,rfl,o3,_,rfl,o4,_,rfl,rfl,rfl⟩:=r.own;refine q1 _ _ _ fun p hp=>?_
 have Gp:Step G0 H0 G (upd H p (.dT [])):=r.st.trans (.hW r.st.s hp);refine q2 _ v0 l1 p o3 o4 G0 H0 G _ vs Gp h0 sq To (r.st.h.free hp) (r.st.s.free hp) bO fun o3 o4 G2 H2 bb g2 GU hd2=>?_
 refine q3 _ v0 l1 p o3 o4 G0 H0 G2 H2 vs bb (g2.seq sq) (To.mono g2) hd2 fun v G3 H3 fq gE ow nw=>post v G3 H3 fq gE ?_ nw
 unfold yW sO;rw[<- eL,eD];exact ow
end
section
variable {P:Program}{w:World}{K:Frag}{mg:Str->Option Value}{base:Heap}
theorem bM (n:Nat):(ah n).length=n:=by unfold ah;rw[aa,Cf]
theorem mj {W:Int}(h:W<2 ^ 70):W<2 ^ 240:=akF h (by decide)
theorem lV (c:Int):(lT c 1,lB c 1)=(c,1):=by
 have:=w4 (t:=c) (b:=1) (p:=c) (q:=1) (by decide) (by decide) (by simp) (by rfl);rw[<- this.1,<- this.2]
theorem abl (p:Int×Int):kq (dF p)=true:=rfl
theorem DH (p:Int×Int):fj (dF p)<=1:=by
 show dX _+1<=1;exact akX (xN fun d hd=>by
  rcases gr.mp hd with rfl | hd
  ·exact br _
  ·rw[rf.mp hd];exact br _)
theorem Ph (p q:Int×Int):cJ (dF p) (dF q)=decide (p=q):=by
 show(p.1==q.1&&(p.2==q.2&&true))=_;rw[Bool.and_true,WJ,BS,OR,OR,Na];exact⟨fun h=>Prod.ext h.1 h.2,fun h=>by rw[h];exact⟨rfl,rfl⟩⟩
def DI (p q:Int×Int):Bool:=decide (p.1*q.2<q.1*p.2)
def yi (dd:List Dv)(t:Tr):Prop:=∃ p q:Int×Int,iH p/\iH q/\dd=[dF p,dF q]/\t=tb (DI p q)
abbrev rR:Stmt:=top 23
theorem YR:aZ ["one", "other"] ["one", "other"] (aq rR):=bt
theorem YS {f:Addr}{fd:FuncData}{k:Nat}(F:aV K "under" "under" rR f fd)(T:Txt mg):aJ P w K mg base ak (k+1) f fd ["one", "other"] (spT K yi):=by
 refine bD F.d YR (fun dd t h=>by obtain⟨_,_,_,_,rfl,_⟩:=h;rfl) fun dd t h=>?_
 obtain⟨p,q,⟨p1,p2,p3⟩,⟨q1,q2,q3⟩,rfl,rfl⟩:=h;refine⟨_,.inl rfl,?_⟩;have fH:∀ r:Int×Int,bu [di r.1,di r.2] 0=some (di r.1):=fun _=>rfl
 have eC:∀ r:Int×Int,bu [di r.1,di r.2] 1=some (di r.2):=fun _=>rfl
 exact aF (bL (Ev.s (Ea (d9 (aY (ae 0 rfl) av rfl (fH p)) (aY (ae 1 rfl) av rfl (eC q)) ⟨ck p3 (by decide),ck q2 (by decide)⟩) (d9 (aY (ae 1 rfl) av rfl (fH q)) (aY (ae 0 rfl) av rfl (eC p)) ⟨ck q3 (by decide),ck p2 (by decide)⟩))))
theorem xh {W s t:Int}(h : 0<W):DI (fW W s) (fW W t)=decide (s<t):=by
 unfold DI;rw[akh];exact ab4 h
abbrev cn (W:Int)(ss:LI):Dv:=.lst (ss.map fun s=>dF (fW W s))
structure Sg (W:Int) (ss:LI):Prop where
 len:ss.length<=120
 b:∀ s ∈ ss,-(4*W)<=s/\s<=4*W
theorem oW {W s:Int}(w0 : 0<W)(w1:W<2 ^ 240)(h : -(1000*W)<=s/\s<=1000*W):iH (fW W s):=by
 have a:=dI (s:=s) w0;have b:=yA (s:=s) w0;have c:=uH (s:=s) w0;exact⟨a,by omega,by omega⟩
theorem sP {W s:Int}(h : 0<W)(w1:W<2 ^ 70)(s0 : 0<=s)(s1:s<=200*W):iH (fW W s):=oW h (mj w1) ⟨by omega,by omega⟩
theorem DJ {W:Int}{ss:LI}(w0 : 0<W)(h:Sg W ss):∀ j,-(4*(j*W))<=(ss.take j).sum/\(ss.take j).sum<=4*((j:Int)*W)
 |0=>by rw[akJ];show -(4*(((0:Nat):Int)*W))<=(0:Int)/\(0:Int)<=4*(((0:Nat):Int)*W);omega
 |j+1=>by
  have ih:=DJ w0 h j;have e:(((j+1:Nat):Int))*W=j*W+W:=by rw[ajQ,SI];show _+1*W=_;rw[akW]
  rw[e];cases q:ss[j]? with
  |none =>
   have hj:ss.length<=j:=by
    rcases JJ j ss.length with z | z
    ·rw[ab z]at q;cases q
    ·exact z
   rw[Mc (by omega)];rw[Mc hj]at ih;omega
  |some x =>
   have hx:=h.b x (mT q);rw[fA q,ai4,akG];omega
theorem ZV {W:Int}{ss:LI}(w0 : 0<W)(h:Sg W ss) : -(1000*W)<=ss.sum/\ss.sum<=1000*W:=by
 have:=DJ w0 h ss.length;rw[Mn]at this;have h20:(ss.length:Int)*W<=120*W:=AL (by have:=h.len;omega) (by omega);omega
abbrev rG:Stmt:=top 24
theorem wQ:aZ ["some", "total", "one"] ["some"] (aq rG):=bt
def uJ (dd:List Dv)(t:Tr):Prop:=∃ (W:Int) (ss:LI),0<W/\W<2 ^ 240/\Sg W ss/\dd=[cn W ss]/\t=tF (fW W ss.sum)
theorem XY {f f1 f2:Addr}{fd aI fd2:FuncData}{k:Nat}{tk:Tok}(F:aV K "sum_of" "sum_of" rG f fd)(T:Txt mg)(cq:Kn P w K mg base ak (k+2) "fraction" f1 aI ["top", "bottom"] (spT K gw))(B1:Binds K aI ["top", "bottom"] [.int 1 tk])(abm:Kn P w K mg base ak (k+3) "plus" f2 fd2 ["one", "other"] (spT K Qm)):aJ P w K mg base ak (k+4) f fd ["some"] (spT K uJ):=by
 refine bD F.d wQ (fun dd t h=>by obtain⟨_,_,_,_,_,rfl,_⟩:=h;rfl) fun dd t h=>?_
 obtain⟨W,ss,w0,w1,sg,rfl,rfl⟩:=h;refine⟨_,.inl rfl,?_⟩;refine ax (aP 1 (bx.to (t':=tF (fW W (ss.take 0).sum)) (Ev.s (jR cq B1 (by show k+2<=k+3;omega) (aj av aw) ⟨0,1,by decide,by decide,rfl,rfl⟩)) (by rw[lV,akJ];show tF (0,1)=tF (fW W 0);rw[xP w0])) (fun _=>wQ.nd)) ?_;refine ax (e7 (bp.s (bR (ae 0 rfl) rfl)) (bJ 2 (fun _=>wQ.nd)) (fun j=>[some (.fz (cn W ss)),some (tF (fW W (ss.take j).sum)),none]) rfl (fun _=>rfl) (fun j d hd=>?_)) ?_
 ·obtain⟨x,hx,rfl⟩:=dH hd;have hb:=sg.b x (mT hx);have ht:=DJ w0 sg j;have hl:=sg.len;have hj:j<ss.length:=by
   rcases JJ j ss.length with z | z
   ·exact z
   ·rw[nt z]at hx;cases hx
  have aiT:(j:Int)*W<=120*W:=AL (by omega) (by omega);refine⟨_,[some (.fz (cn W ss)),some (tF (fW W (ss.take (j+1)).sum)),some (tF (fW W x))],rfl,?_,[2],rfl⟩;rw[fA hx,ai4,akG];generalize (ss.take j).sum=S at ht;exact aF (aP 1 (bx.to (t':=tF (fW W (S+x))) (Ev.s (aG abm (br _) (aj (ae 1 rfl) (aj (ae 2 rfl) aw)) ⟨fW W S,fW W x,oW w0 w1 (by omega),oW w0 w1 (by omega),rfl,rfl⟩)) (by rw[ZA w0])) (fun _=>wQ.nd))
 ·rw[aa,Mn];exact aF (bL (Ev.s (ae 1 rfl)))
abbrev bI (W:Int)(rows:LL):Dv:=.lst (rows.map (cn W))
structure vg (W:Int) (rows:LL):Prop where
 w0 : 0<W
 w1:W<2 ^ 70
 len:rows.length<=20
 row:∀ r ∈ rows,Sg W r
def gy (rows:LL)(x:Int):LI:=rows.map fun r=>r.getD x.toNat 0
abbrev qY:Stmt:=top 36
theorem WH:aZ ["shares", "one"] ["shares", "one"] (aq qY):=bt
def Pj (dd:List Dv)(t:Tr):Prop:=∃ (W:Int) (rows:LL) (x:Int),vg W rows/\0<=x/\(∀ r ∈ rows,x<r.length)/\dd=[bI W rows,di x]/\t=tF (fW W (gy rows x).sum)
theorem Pk {W:Int}{rows:LL}(h:vg W rows){x:Int}(x0 : 0<=x)(x1:∀ r ∈ rows,x<r.length):Sg W (gy rows x):=by
 refine⟨by unfold gy;rw[aa];exact(zd h.len (by decide)),fun s hs=>?_⟩;obtain⟨r,hr,rfl⟩:=i4.mp hs;have:=x1 r hr;refine(h.row r hr).b _ ?_;rw[ba,ab (show x.toNat<r.length by omega)];exact MW _
theorem abn {W:Int}{r:LI}{x:Int}(x0 : 0<=x)(x1:x<r.length):bu (r.map fun s=>dF (fW W s)) x=some (dF (fW W (r.getD x.toNat 0))):=by
 obtain⟨m,rfl⟩:∃ m:Nat,x=(m:Int):=⟨x.toNat,by omega⟩
 refine iV ?_;rw[ee,ba,zw,ab (by omega)];rfl
theorem WK {f f1:Addr}{fd aI:FuncData}{k:Nat}(F:aV K "dealt_of" "dealt_of" qY f fd)(T:Txt mg)(oy:Kn P w K mg base ak (k+4) "sum_of" f1 aI ["some"] (spT K uJ)):aJ P w K mg base ak (k+5) f fd ["shares", "one"] (spT K Pj):=by
 refine bD F.d WH (fun dd t h=>by obtain⟨_,_,_,_,_,_,rfl,_⟩:=h;rfl) fun dd t h=>?_
 obtain⟨W,rows,x,ok,x0,x1,rfl,rfl⟩:=h;refine⟨_,.inl rfl,?_⟩;have big : 1000<sizeLine:=by decide
 have hl:=ok.len;have e:er (.ow (rows.map fun r=>tF (fW W (r.getD x.toNat 0))))=cn W (gy rows x):=by
  rw[dk];unfold gy;show Dv.lst _=Dv.lst (List.map _ (List.map _ _));rw[gz];rfl
 exact aF (bL (Ev.s (aG oy (br _) (aj (Ev.as (fL (own:=["row"]) (fr:=[1]) rows (cn W) (fun r=>tF (fW W (r.getD x.toNat 0))) (fun i=>bV) (bR (ae 0 rfl) rfl) (bJ 0 (fun _=>by show List.Nodup (["row", "one"]:List Str);decide)) (by decide) (by omega) (fun r hr=>⟨_,rfl,by exact dU (ae 0 rfl) (ae 1 rfl) rfl (abn x0 (x1 r hr))⟩) (fun dd=>by cases dd<;>rfl)) e) aw) ⟨W,gy rows x,ok.w0,mj ok.w1,Pk ok x0 x1,rfl,rfl⟩)))
abbrev rH:Stmt:=top 37
theorem XZ:aZ ["row", "many"] ["row", "many"] (aq rH):=bt
def ie (W:Int)(n:Nat)(r:LI):Bool:=decide (r.length=n+1)&&(r.all (fun s=>decide (0<=s))&&decide (r.sum=W))
def Pl (dd:List Dv)(t:Tr):Prop:=∃ (W:Int) (r:LI) (n:Nat),0<W/\W<2 ^ 70/\Sg W r/\dd=[cn W r,di n]/\t=tb (ie W n r)
theorem X0 {f f1 f2 f3:Addr}{fd aI fd2 eE:FuncData}{k:Nat}{tk:Tok}(F:aV K "is_row" "is_row" rH f fd)(T:Txt mg)(cq:Kn P w K mg base ak (k+2) "fraction" f1 aI ["top", "bottom"] (spT K gw))(B1:Binds K aI ["top", "bottom"] [.int 1 tk])(rS:Kn P w K mg base ak (k+1) "under" f2 fd2 ["one", "other"] (spT K yi))(oy:Kn P w K mg base ak (k+4) "sum_of" f3 eE ["some"] (spT K uJ)):aJ P w K mg base ak (k+5) f fd ["row", "many"] (spT K Pl):=by
 refine bD F.d XZ (fun dd t h=>by obtain⟨_,_,_,_,_,_,rfl,_⟩:=h;rfl) fun dd t h=>?_
 obtain⟨W,r,n,w0,w1,sg,rfl,rfl⟩:=h;refine⟨_,.inl rfl,?_⟩;have big : 1000<sizeLine:=by decide
 have hl:=sg.len;have el:(((r.map fun s=>dF (fW W s)).length:Nat):Int)=r.length:=by rw[aa]
 by_cases h1:r.length=n+1
 ·have tH:ie W n r=(r.all (fun s=>decide (0<=s))&&decide (r.sum=W)):=by unfold ie;rw[u4 h1];rfl
  rw[tH];refine ax (cH (Et.s (kM (bS T.bQ (ae 0 rfl) (.inl rfl)) (eI (ae 1 rfl) av))) (by rw[el,h1];simp)) ?_;have ea:(r.map fun s=>decide (s<0)).any id = !r.all fun s=>decide (0<=s):=by
   rw[ak4];clear tH el h1 hl sg
   induction r with
   |nil=>rfl
   |cons a r ih =>
    rw[Pf,ajn,ih,Bool.not_and];congr 1;show decide (a<0) = !decide (0<=a);by_cases z:a<0
    ·rw[u4 z,tw (by omega)];rfl
    ·rw[tw z,u4 (by omega)];rfl
  refine NY (Et.s (eJ (yg (bs:=r.map fun s=>decide (s<0)) T.yC (fL (own:=["share"]) (fr:=[]) r (fun s=>dF (fW W s)) (fun s=>tb (decide (s<0))) (fun i=>bV) (bR (ae 0 rfl) rfl) (bJ 0 (fun _=>by show List.Nodup (["share"]:List Str);decide)) (by decide) (by omega) (fun s hs=>⟨_,rfl,by
    have hb:=sg.b s hs;exact Ev.to (aG rS (by show k+1<=k+4;omega) (aj (ae 0 rfl) (aj (Ev.to (t':=tF (fW W 0)) (jR cq B1 (by show k+2<=k+4;omega) (aj av aw) ⟨0,1,by decide,by decide,rfl,rfl⟩) (by rw[lV,xP w0])) aw)) ⟨fW W s,fW W 0,oW w0 (mj w1) (by omega),oW w0 (mj w1) (by omega),rfl,rfl⟩) (by rw[xh w0])⟩) (fun dd=>by cases dd<;>rfl)) (ur _ _)))) (fun h=>?_) (fun h=>?_)
  ·rw[ea]at h;have h':(r.all fun s=>decide (0<=s))=false:=by simpa using h
   rw[h'];exact aF (bL (Ev.s uN))
  ·rw[ea]at h;have h':(r.all fun s=>decide (0<=s))=true:=by simpa using h
   rw[h'];refine aF (bL (bx.to (Ev.s (aaL (aG oy (br _) (aj (ae 0 rfl) aw) ⟨W,r,w0,mj w1,sg,rfl,rfl⟩) (jR cq B1 (by show k+2<=k+4;omega) (aj av aw) ⟨1,1,by decide,by decide,rfl,rfl⟩) (.inr ⟨_,_,rfl,rfl⟩) (zd (DH _) (by decide)))) ?_));rw[lV];show tb (cJ (dF (fW W r.sum)) (dF (1,1)))=_;rw[Ph,<- NV w0];congr 1;show _=decide (r.sum=W);exact akh.mpr ⟨fun z=>O0 w0 z,fun z=>by rw[z]⟩
 ·have tH:ie W n r=false:=by unfold ie;rw[tw h1];rfl
  rw[tH];exact xI (oN (Et.s (kM (bS T.bQ (ae 0 rfl) (.inl rfl)) (eI (ae 1 rfl) av))) (by
   rw[el];show(!decide _)=true;rw[tw (by omega)];rfl) (aF (bL (Ev.s uN))))
abbrev qK:Stmt:=top 38
theorem VP:aZ ["counts", "shares"] ["counts", "shares"] (aq qK):=bt
def kR (W:Int)(c:LI)(rows:LL):Bool:=rows.all (ie W c.length)&&(ah c.length).all fun x=>decide ((gy rows x).sum<=c.getD x.toNat 0*W)
def Q8 (dd:List Dv)(t:Tr):Prop:=∃ (W:Int) (c:LI) (rows:LL),vg W rows/\c.length<=6/\(∀ x ∈ c,0<=x/\x<=9)/\dd=[dis c,bI W rows]/\t=tb (kR W c rows)
theorem BP (c:LI):hZ (c.map di)=(ah c.length).map fun x=>Dv.tup [di x,di (c.getD x.toNat 0)]:=by
 unfold hZ;refine IF fun n=>?_
 rw[RI,aa,ee,ee];by_cases hn:n<c.length
 ·have e1:(ah c.length)[n]?=some (0+(n:Int)):=by
   unfold ah;rw[ee,CS hn];rfl
  rw[e1,CS hn,ab hn];show some (Dv.tup [di (n:Int),di c[n]])=some (Dv.tup [di (0+(n:Int)),di (c.getD (0+(n:Int)).toNat 0)]);rw[Zp,zw,ba,ab hn];rfl
 ·rw[nt (l:=List.range c.length) (by rw[Cf];omega),nt (l:=ah c.length) (by rw[bM];omega)];rfl
theorem VQ {f f1 f2 f3 f4:Addr}{fd aI fd2 eE mN:FuncData}{k:Nat}{tk:Tok}(F:aV K "are_shares" "are_shares" qK f fd)(T:Txt mg)(YT:Kn P w K mg base ak (k+5) "is_row" f1 aI ["row", "many"] (spT K Pl))(rS:Kn P w K mg base ak (k+1) "under" f2 fd2 ["one", "other"] (spT K yi))(cq:Kn P w K mg base ak (k+2) "fraction" f3 eE ["top", "bottom"] (spT K gw))(B1:Binds K eE ["top", "bottom"] [.int 1 tk])(W6:Kn P w K mg base ak (k+5) "dealt_of" f4 mN ["shares", "one"] (spT K Pj)):aJ P w K mg base ak (k+6) f fd ["counts", "shares"] (spT K Q8):=by
 refine bD F.d VP (fun dd t h=>by obtain⟨_,_,_,_,_,_,rfl,_⟩:=h;rfl) fun dd t h=>?_
 obtain⟨W,c,rows,ok,c6,cb,rfl,rfl⟩:=h;refine⟨_,.inl rfl,?_⟩;have big : 1000<sizeLine:=by decide
 have hl:=ok.len;have w0:=ok.w0;have w1:=ok.w1;have ea:(rows.map (ie W c.length)).all id=rows.all (ie W c.length):=by rw[ak1];rfl
 refine NY (Et.s (gM (eJ (aaP (bs:=rows.map (ie W c.length)) T.aca (fL (own:=["row"]) (fr:=[0]) rows (cn W) (fun r=>tb (ie W c.length r)) (fun i=>bV) (bR (ae 1 rfl) rfl) (bJ 0 (fun _=>by show List.Nodup (["row", "counts"]:List Str);decide)) (by decide) (by omega) (fun r hr=>⟨_,rfl,by
   exact aG YT (br _) (aj (ae 0 rfl) (aj (Ev.to (t':=ti (c.length:Nat)) (bS T.bQ (ae 1 rfl) (.inl rfl)) (by rw[aa])) aw)) ⟨W,r,c.length,w0,w1,ok.row r hr,rfl,rfl⟩⟩) (fun dd=>by cases dd<;>rfl)) (ur _ _))))) (fun h=>?_) (fun h=>?_)
 ·rw[ea]at h;have h':rows.all (ie W c.length)=false:=by simpa using h
  have:kR W c rows=false:=by unfold kR;rw[h'];rfl
  rw[this];exact aF (bL (Ev.s uN))
 ·rw[ea]at h;have h':rows.all (ie W c.length)=true:=by simpa using h
  have x1:∀ x:Int,0<=x->x<c.length->∀ r ∈ rows,x<r.length:=fun x _ hx r hr=>by
   have:=LM.mp h' r hr;unfold ie at this;rw[BS]at this;have:=Cn this.1;omega
  have e2:kR W c rows = !((ah c.length).map fun x=>decide (c.getD x.toNat 0*W<(gy rows x).sum)).any id:=by
   unfold kR;rw[h',Bool.true_and,ak4]
   induction ah c.length with
   |nil=>rfl
   |cons a l ih =>
    rw[Pf,ajn,ih,Bool.not_or];congr 1;show decide _ = !decide _;by_cases z:c.getD a.toNat 0*W<(gy rows a).sum
    ·rw[u4 z,tw (by omega)];rfl
    ·rw[tw z,u4 (by omega)];rfl
  rw[e2];refine aF (bL (Ev.s (Dr (yg (bs:=(ah c.length).map fun x=>decide (c.getD x.toNat 0*W<(gy rows x).sum)) T.yC (fL (own:=["thing", "count"]) (fr:=[1]) (ah c.length) (fun x=>.tup [di x,di (c.getD x.toNat 0)]) (fun x=>tb (decide (c.getD x.toNat 0*W<(gy rows x).sum))) (fun i=>bV) (bp.to (iU T.iD (ae 0 rfl) rfl) (BP c)) (eK 0 1 (fun _=>by show List.Nodup (["thing", "count", "shares"]:List Str);decide)) (by decide) (by rw[bM];omega) (fun x hx=>⟨_,rfl,by
    obtain⟨x0,x2⟩:=aW.mp hx;have hc : 0<=c.getD x.toNat 0/\c.getD x.toNat 0<=9:=cb _ (by rw[ba,ab (show x.toNat<c.length by omega)];exact MW _);have hs:=ZV w0 (Pk ok x0 (x1 x x0 x2));have h9:c.getD x.toNat 0*W<=9*W:=AL hc.2 (by omega);have h0 : 0<=c.getD x.toNat 0*W:=Nd hc.1 (by omega);have ef:tF (lT (c.getD x.toNat 0) 1,lB (c.getD x.toNat 0) 1)=tF (fW W (c.getD x.toNat 0*W)):=by
     rw[<- kH w0 (show(1:Int) ≠ 0 by decide) (show c.getD x.toNat 0*W=c.getD x.toNat 0*W*1 by rw[ai6])]
    exact Ev.to (aG rS (by show k+1<=k+5;omega) (aj (Ev.to (jR cq B1 (by show k+2<=k+5;omega) (aj (ae 1 rfl) aw) ⟨c.getD x.toNat 0,1,by decide,by decide,rfl,rfl⟩) ef) (aj (aG W6 (br _) (aj (ae 2 rfl) (aj (ae 0 rfl) aw)) ⟨W,rows,x,ok,x0,x1 x x0 x2,rfl,rfl⟩) aw)) ⟨_,_,oW w0 (mj w1) (by omega),oW w0 (mj w1) hs,rfl,rfl⟩) (by rw[xh w0])⟩) (fun dd=>by rcases dd with _ | ⟨_,_ | ⟨_,_⟩⟩<;>rfl)) (ur _ _)))))
end
section
variable {P:Program}{w:World}{K:Frag}{mg:Str->Option Value}{base:Heap}
def af (l:LI)(x:Int):Int:=l.getD x.toNat 0
theorem jB {α:Type}(f:Int->α){l:LI}{x:Int}(h0 : 0<=x)(h1:x<l.length):bu (l.map f) x=some (f (af l x)):=by
 obtain⟨m,rfl⟩:∃ m:Nat,x=(m:Int):=⟨x.toNat,by omega⟩
 refine iV ?_;unfold af;rw[ee,ba,zw,ab (by omega)];rfl
theorem jz (n:Nat):(ah n).length=n:=by unfold ah;rw[aa,Cf]
theorem xR (n:Nat){i:Int}(h:i=(n:Int)):jj 0 i.toNat=(ah n).map di:=by
 subst h;rw[zw];unfold ah;rw[gz];rfl
abbrev nX (W:Int)(m:Int×LI):Dv:=.tup [dF (fW W m.1),dis m.2]
def bF (M:List (Int×LI))(a x:Int):Int:=((M.filter fun m=>decide (af m.2 a=x)).map (·.1)).sum
structure zY (W:Int) (A:Nat) (M:List (Int×LI)):Prop where
 w0 : 0<W
 w1:W<2 ^ 240
 ok:∀ m ∈ M,0<=m.1/\m.1<=W/\m.2.length=A
 ml:M.length<=120
 a6:A<=6
abbrev qS:Stmt:=top 40
theorem We:aZ ["mix", "asker", "one"] ["mix", "asker", "one"] (aq qS):=bt
def Mk (dd:List Dv)(t:Tr):Prop:=∃ (W:Int) (A:Nat) (M:List (Int×LI)) (a x:Int),zY W A M/\0<=a/\a<A/\dd=[.lst (M.map (nX W)),di a,di x]/\t=tF (fW W (bF M a x))
theorem Wf {f f1:Addr}{fd aI:FuncData}{k:Nat}(F:aV K "weight_of" "weight_of" qS f fd)(T:Txt mg)(oy:Kn P w K mg base ak (k+4) "sum_of" f1 aI ["some"] (spT K uJ)):aJ P w K mg base ak (k+5) f fd ["mix", "asker", "one"] (spT K Mk):=by
 refine bD F.d We (fun dd t h=>by obtain⟨_,_,_,_,_,_,_,_,rfl,_⟩:=h;rfl) fun dd t h=>?_
 obtain⟨W,A,M,a,x,fI,a0,a1,rfl,rfl⟩:=h;refine⟨_,.inl rfl,?_⟩;have big : 1000<sizeLine:=by decide
 have ml:=fI.ml;have eF:er (.ow ((M.filter fun m=>decide (af m.2 a=x)).map fun m=>tF (fW W m.1)))=cn W ((M.filter fun m=>decide (af m.2 a=x)).map (·.1)):=by
  rw[dk];show Dv.lst _=Dv.lst (List.map _ (List.map _ _));rw[gz];rfl
 refine aF (bL (Ev.s (aG oy (br _) (aj (Ev.as (kJ (own:=["weight", "deal"]) (fr:=[2,1]) M (nX W) (fun m=>decide (af m.2 a=x)) (fun m=>tF (fW W m.1)) (fun i=>bV) (bR (ae 0 rfl) rfl) (eK 0 1 (fun _=>by show List.Nodup (["weight", "deal", "one", "asker"]:List Str);decide)) (by decide) (by omega) (fun m hm=>⟨_,rfl,by
   exact g9 (jD (dU (ae 1 rfl) (ae 3 rfl) rfl (jB di a0 (by rw[(fI.ok m hm).2.2];exact a1))) (ae 2 rfl)),fun _=>by exact ae 0 rfl⟩) (fun dd=>by rcases dd with _ | ⟨a,_ | ⟨b,dd⟩⟩<;>rfl)) eF) aw) ⟨W,(M.filter fun m=>decide (af m.2 a=x)).map (·.1),fI.w0,fI.w1,⟨?_,fun y hy=>?_⟩,rfl,rfl⟩)))
 ·rw[aa];have:=IS (fun m:Int×LI=>decide (af m.2 a=x)) M;omega
 ·obtain⟨m,hm,rfl⟩:=i4.mp hy;have:=fI.ok m (AM.mp hm).1;have:=fI.w0;omega
abbrev Fh (W:Int)(A n:Nat)(M:List (Int×LI)):Tr:=.ow ((ah A).map fun a=>.ow ((ah (n+1)).map fun x=>tF (fW W (bF M a x))))
abbrev qT:Stmt:=top 41
theorem Lk:aZ ["counts", "mix", "askers"] ["counts", "mix"] (aq qT):=bt
def BQ (dd:List Dv)(t:Tr):Prop:=∃ (W:Int) (A:Nat) (M:List (Int×LI)) (c:LI),zY W A M/\M ≠ []/\c.length<=6/\dd=[dis c,.lst (M.map (nX W))]/\t=Fh W A c.length M
theorem Wg {f f1:Addr}{fd aI:FuncData}{k:Nat}(F:aV K "shares_of" "shares_of" qT f fd)(T:Txt mg)(WL:Kn P w K mg base ak (k+5) "weight_of" f1 aI ["mix", "asker", "one"] (spT K Mk)):aJ P w K mg base ak (k+6) f fd ["counts", "mix"] (spT K BQ):=by
 refine bD F.d Lk (fun dd t h=>by obtain⟨_,_,_,_,_,_,_,rfl,_⟩:=h;rfl) fun dd t h=>?_
 obtain⟨W,A,M,c,fI,mne,c6,rfl,rfl⟩:=h;refine⟨_,.inl rfl,?_⟩;have big : 1000<sizeLine:=by decide
 have a6:=fI.a6;obtain⟨m0,M',rfl⟩:∃ m0 M',M=m0::M':=by
  cases M with
  |nil=>exact absurd rfl mne
  |cons m0 M'=>exact⟨m0,M',rfl⟩
 have l0:m0.2.length=A:=(fI.ok m0 (.head _)).2.2;refine ax (aP 2 (bx.to (t':=ti A) (Ev.s (bS (xs:=m0.2.map di) T.bQ (aY (xs:=[dF (fW W m0.1),dis m0.2]) (d:=dis m0.2) (dU (d:=nX W m0) (ae 1 rfl) av rfl (iV (j:=0) rfl)) av rfl rfl) (.inl rfl))) (by rw[aa,l0])) (fun _=>Lk.nd)) ?_;generalize m0::M'=M at fI;refine aF (bL (Ev.s ?_));exact fL (own:=["asker"]) (fr:=[1,0]) (ah A) di (fun a=>.ow ((ah (c.length+1)).map fun x=>tF (fW W (bF M a x)))) (fun i=>yR ⟨rfl,rfl,by decide +kernel,by decide +kernel,by decide +kernel,by decide +kernel⟩) (bp.to (iE T.gL (ae 2 rfl) (by omega)) (xR A rfl)) (bJ 0 (fun _=>by show List.Nodup (["asker", "mix", "counts"]:List Str);decide)) (by decide) (by rw[jz];omega) (fun a ha=>⟨_,rfl,by
   obtain⟨a0,a1⟩:=aW.mp ha;exact fL (own:=["one"]) (fr:=[1,0]) (ah (c.length+1)) di (fun x=>tF (fW W (bF M a x))) (fun i=>sL ["asker", "mix", "counts"] ⟨rfl,by decide +kernel,by decide +kernel,by decide +kernel,by decide +kernel⟩ fun y hy=>jQ _ _ y hy) (bp.to (iE T.gL (eI (bS T.bQ (ae 2 rfl) (.inl rfl)) av) (by rw[aa];omega)) (xR (c.length+1) (by rw[aa];omega))) (bJ 0 (fun _=>by show List.Nodup (["one", "mix", "asker"]:List Str);decide)) (by decide) (by rw[jz];omega) (fun x hx=>⟨_,rfl,by
    exact aG WL (br _) (aj (ae 1 rfl) (aj (ae 2 rfl) (aj (ae 0 rfl) aw))) ⟨W,A,M,a,x,fI,a0,a1,rfl,rfl⟩⟩) (fun dd=>by cases dd<;>rfl)⟩) (fun dd=>by cases dd<;>rfl)
theorem ZW {K:LL}(nd:K.Nodup)(p:LI->Bool){e:LI}(he:e ∈ K):(((K.filter p).map fun d=>(if e=d then 1 else 0:Int))).sum=if p e then 1 else 0:=by
 induction K with
 |nil=>cases he
 |cons d K ih =>
  have GV:=BB.mp nd;have none_of:∀ K':LL,e ∉ K'->(((K'.filter p).map fun d=>(if e=d then 1 else 0:Int))).sum=0:=by
   intro K' h
   induction K' with
   |nil=>rfl
   |cons x K' Tp =>
    have h1:e ≠ x:=fun z=>h (z ▸ .head _)
    have h2:e ∉ K':=fun z=>h (.tail _ z)
    rw[Lm];split
    ·rw[i8,ue,mf h1,Tp h2];rfl
    ·exact Tp h2
  by_cases q:e=d
  ·subst q;have:=none_of K GV.1;rw[Lm];by_cases pe:p e=true
   ·rw[lp pe,i8,ue,this,lp rfl,lp pe];rfl
   ·rw[mf pe,this,mf pe]
  ·have hK:e ∈ K:=by
    rcases gr.mp he with z | z
    ·exact absurd z q
    ·exact z
   rw[Lm];split
   ·rw[i8,ue,mf q,ih GV.2 hK,Zp]
   ·exact ih GV.2 hK
theorem sum_add (l:LL)(f g:LI->Int):(l.map fun d=>f d+g d).sum=(l.map f).sum+(l.map g).sum:=by
 induction l with
 |nil=>rfl
 |cons d l ih=>simp only[i8,ue,ih];omega
theorem Ml {K:LL}(nd:K.Nodup)(p:LI->Bool):∀ {D:LL},(∀ d ∈ D,d ∈ K)->(((K.filter p).map fun d=>((D.count d:Nat):Int))).sum=((D.countP p:Nat):Int)
 |[],_=>by
  have:∀ l:LL,(l.map fun d=>((([]:LL).count d:Nat):Int)).sum=0:=by
   intro l
   induction l with
   |nil=>rfl
   |cons d l ih=>rw[i8,ue,ih];rfl
  rw[this];rfl
 |e::D,h=>by
  have ih:=Ml nd p (D:=D) fun d hd=>h d (.tail _ hd)
  have e1:((K.filter p).map fun d=>(((e::D).count d:Nat):Int))=(K.filter p).map fun d=>((D.count d:Nat):Int)+(if e=d then 1 else 0:Int):=ma fun d _=>by
   rw[OK];by_cases q:e=d
   ·simp[q]
   ·simp[q]
  rw[e1,sum_add,ih,ZW nd p (h e (.head _)),Lo];by_cases pe:p e=true
  ·simp[pe]
  ·simp[pe]
def sV (D:LL)(a x:Int):Int:=((D.countP fun d=>decide (af d a=x):Nat):Int)
def mq (c:LI)(os:LL):List (Int×LI):=(sO c os).map fun d=>(((df c os).count d:Nat),d)
abbrev wT (os:LL):Int:=((cN os.length os.length).length:Nat)
theorem ZX (c:LI)(os:LL):er (yW c os)=.lst ((mq c os).map (nX (wT os))):=by
 unfold yW mq;rw[dk,gz];refine congrArg Dv.lst (ma fun d _=>?_);show Dv.tup [_,er (aU d)]=_;rw[eZ];rfl
theorem keys_nodup (c:LI)(os:LL):(sO c os).Nodup:=(t5 _).nodup_iff.mpr (XW _)
theorem mem_keys {c:LI}{os:LL}{d:LI}:d ∈ sO c os ↔ d ∈ df c os:=(t5 _).mem_iff.trans (t4 _)
theorem abo (c:LI)(os:LL)(a x:Int):bF (mq c os) a x=sV (df c os) a x:=by
 unfold bF mq sV;rw[ajM,gz];exact Ml (keys_nodup c os) (fun d=>decide (af d a=x)) fun d hd=>mem_keys.mpr hd
theorem ZY {c:LI}{os:LL}(o5:os.length<=5):zY (wT os) os.length (mq c os):=by
 have Ll:=wO os.length o5;have al:(df c os).length=(cN os.length os.length).length:=by unfold df;rw[aa]
 refine⟨by show(0:Int)<((cN os.length os.length).length:Nat);omega,mj (by show((cN os.length os.length).length:Int)<2 ^ 70;exact ajR (show _<=(120:Int) by omega) (by decide)),fun m hm=>?_,?_,by omega⟩
 ·obtain⟨d,hd,rfl⟩:=i4.mp hm;refine⟨by show(0:Int)<=((df c os).count d:Nat);omega,?_,?_⟩
  ·have:=ajt (a:=d) (l:=df c os);show(((df c os).count d:Nat):Int)<=((cN os.length os.length).length:Nat)
   omega
  ·obtain⟨ts,_,rfl⟩:=i4.mp (mem_keys.mp hd);unfold dJ;rw[aa,mV]
 ·unfold mq sO;have:=Bs (df c os);rw[aa,(t5 _).length_eq];omega
def zZ (W:Int)(A n:Nat)(D:LL):Tr:=.ow ((ah A).map fun a=>.ow ((ah (n+1)).map fun x=>tF (fW W (sV D a x))))
abbrev qA:Stmt:=top 63
theorem Vu:aZ ["table"] ["table"] (aq qA):=bt
def Lw (dd:List Dv)(t:Tr):Prop:=∃ c os,gq c os/\os.length<=4/\dd=[gP c os]/\t=zZ (wT os) os.length c.length (df c os)
theorem Vv {f f1 f2:Addr}{fd aI fd2:FuncData}{k:Nat}(F:aV K "turn_shares" "turn_shares" qA f fd)(T:Txt mg)(Bn:Kn P w K mg base ak (k+6) "shares_of" f1 aI ["counts", "mix"] (spT K BQ))(W7:Kn P w K mg base ak (k+3) "turn_mix" f2 fd2 ["table"] (spT K M0)):aJ P w K mg base ak (k+7) f fd ["table"] (spT K Lw):=by
 refine bD F.d Vu (fun dd t h=>by obtain⟨_,_,_,_,rfl,_⟩:=h;rfl) fun dd t h=>?_
 obtain⟨c,os,ok,o4,rfl,rfl⟩:=h;have o5:os.length<=5:=by omega
 refine⟨_,.inl rfl,?_⟩;have ne:mq c os ≠ []:=fun z=>by
  have Ll:=(wO os.length o5).1;have:∃ d,d ∈ df c os:=by
   cases q:df c os with
   |nil=>have:=congrArg List.length q;unfold df at this;rw[aa]at this;simp at this;rw[this]at Ll;simp at Ll
   |cons d _=>exact⟨d,.head _⟩
  obtain⟨d,hd⟩:=this;have:((((df c os).count d:Nat):Int),d) ∈ mq c os:=i4.mpr ⟨d,mem_keys.mpr hd,rfl⟩;rw[z]at this;cases this
 refine aF (bL (bx.to (Ev.s (aG Bn (br _) (aj (aY (d:=dis c) (ae 0 rfl) av rfl rfl) (aj (Ev.as (aG W7 (by show k+3<=k+6;omega) (aj (ae 0 rfl) aw) ⟨c,os,ok,o4,rfl,rfl⟩) (ZX c os)) aw)) ⟨wT os,os.length,mq c os,c,ZY o5,ne,ok.c6,rfl,rfl⟩)) ?_));unfold zZ Fh;simp only[abo]
end
section
variable {P:Program}{w:World}{K:Frag}{mg:Str->Option Value}{base:Heap}
theorem M1 {W s t:Int}(h : 0<W):(lT ((fW W s).1*(fW W t).2-(fW W t).1*(fW W s).2) ((fW W s).2*(fW W t).2),lB ((fW W s).1*(fW W t).2-(fW W t).1*(fW W s).2) ((fW W s).2*(fW W t).2))=fW W (s-t):=by
 have p1:=dI (s:=s) h;have p2:=dI (s:=t) h;have c1:=gg (s:=s) h;have c2:=gg (s:=t) h;generalize (fW W s).1=a at *;generalize (fW W s).2=b at *;generalize (fW W t).1=c at *;generalize (fW W t).2=d at *;refine kH h (by have:=NJ p1 p2;omega) ?_;have e1:(a*d-c*b)*W=(a*W)*d-(c*W)*b:=by
  rw[ak9,BN a d W,BN c b W]
 rw[e1,c1,c2,ak9,ES s b d,ES t d b,Me d b]
theorem YV {W s c:Int}(h : 0<W):(lT ((fW W s).1*c) ((fW W s).2*1),lB ((fW W s).1*c) ((fW W s).2*1))=fW W (s*c):=by
 have p1:=dI (s:=s) h;have c1:=gg (s:=s) h;generalize (fW W s).1=a at *;generalize (fW W s).2=b at *;refine kH h (by omega) ?_;rw[ai6,BN a c W,c1,BN]
theorem ZZ {W s c:Int}(h : 0<W)(hc : 0<c)(hd:c ∣ s):(lT ((fW W s).1*1) ((fW W s).2*c),lB ((fW W s).1*1) ((fW W s).2*c))=fW W (s / c):=by
 have p1:=dI (s:=s) h;have c1:=gg (s:=s) h;generalize (fW W s).1=a at *;generalize (fW W s).2=b at *;obtain⟨q,rfl⟩:=hd;rw[LB _ (by omega)];refine kH h (by have:=NJ p1 hc;omega) ?_;rw[ai6,c1,Me c q,ES,Me c b]
theorem abp {W c:Int}(h : 0<W):(c,(1:Int))=fW W (c*W):=by
 rw[<- lV];exact kH h (by decide) (by rw[ai6])
theorem Pm {c:Int}(h0 : 0<=c)(h1:c<1000):iH (c,1):=⟨by show(0:Int)<1;decide,by show(1:Int).natAbs<2 ^ 250;decide,EU (show c.natAbs<=1000 by omega) (by decide)⟩
abbrev rT:Stmt:=top 20
theorem YW:aZ ["one", "other"] ["one", "other"] (aq rT):=bt
def DK (dd:List Dv)(t:Tr):Prop:=∃ p q:Int×Int,iH p/\iH q/\dd=[dF p,dF q]/\t=tF (lT (p.1*q.2-q.1*p.2) (p.2*q.2),lB (p.1*q.2-q.1*p.2) (p.2*q.2))
theorem YX {f f1:Addr}{fd aI:FuncData}{k:Nat}(F:aV K "minus" "minus" rT f fd)(T:Txt mg)(cq:Kn P w K mg base ak (k+2) "fraction" f1 aI ["top", "bottom"] (spT K gw)):aJ P w K mg base ak (k+3) f fd ["one", "other"] (spT K DK):=by
 refine bD F.d YW (fun dd t h=>by obtain⟨_,_,_,_,rfl,_⟩:=h;rfl) fun dd t h=>?_
 obtain⟨p,q,⟨p1,p2,p3⟩,⟨q1,q2,q3⟩,rfl,rfl⟩:=h;refine⟨_,.inl rfl,?_⟩;have fH:∀ r:Int×Int,bu [di r.1,di r.2] 0=some (di r.1):=fun _=>rfl
 have eC:∀ r:Int×Int,bu [di r.1,di r.2] 1=some (di r.2):=fun _=>rfl
 exact aF (bL (Ev.s (aG cq (br _) (aj (se (d9 (aY (ae 0 rfl) av rfl (fH p)) (aY (ae 1 rfl) av rfl (eC q)) ⟨ck p3 (by decide),ck q2 (by decide)⟩) (d9 (aY (ae 1 rfl) av rfl (fH q)) (aY (ae 0 rfl) av rfl (eC p)) ⟨ck q3 (by decide),ck p2 (by decide)⟩)) (aj (d9 (aY (ae 0 rfl) av rfl (eC p)) (aY (ae 1 rfl) av rfl (eC q)) ⟨ck p2 (by decide),ck q2 (by decide)⟩) aw)) ⟨_,_,NJ p1 q1,ck (uI p2 q2) (by decide),rfl,rfl⟩)))
abbrev rV:Stmt:=top 21
theorem YY:aZ ["one", "other"] ["one", "other"] (aq rV):=bt
def Pn (dd:List Dv)(t:Tr):Prop:=∃ p q:Int×Int,iH p/\iH q/\dd=[dF p,dF q]/\t=tF (lT (p.1*q.1) (p.2*q.2),lB (p.1*q.1) (p.2*q.2))
theorem YZ {f f1:Addr}{fd aI:FuncData}{k:Nat}(F:aV K "times" "times" rV f fd)(T:Txt mg)(cq:Kn P w K mg base ak (k+2) "fraction" f1 aI ["top", "bottom"] (spT K gw)):aJ P w K mg base ak (k+3) f fd ["one", "other"] (spT K Pn):=by
 refine bD F.d YY (fun dd t h=>by obtain⟨_,_,_,_,rfl,_⟩:=h;rfl) fun dd t h=>?_
 obtain⟨p,q,⟨p1,p2,p3⟩,⟨q1,q2,q3⟩,rfl,rfl⟩:=h;refine⟨_,.inl rfl,?_⟩;have fH:∀ r:Int×Int,bu [di r.1,di r.2] 0=some (di r.1):=fun _=>rfl
 have eC:∀ r:Int×Int,bu [di r.1,di r.2] 1=some (di r.2):=fun _=>rfl
 exact aF (bL (Ev.s (aG cq (br _) (aj (d9 (aY (ae 0 rfl) av rfl (fH p)) (aY (ae 1 rfl) av rfl (fH q)) ⟨ck p3 (by decide),ck q3 (by decide)⟩) (aj (d9 (aY (ae 0 rfl) av rfl (eC p)) (aY (ae 1 rfl) av rfl (eC q)) ⟨ck p2 (by decide),ck q2 (by decide)⟩) aw)) ⟨_,_,NJ p1 q1,ck (uI p2 q2) (by decide),rfl,rfl⟩)))
abbrev su:Stmt:=top 22
theorem Z0:aZ ["one", "other"] ["one", "other"] (aq su):=bt
def Qq (dd:List Dv)(t:Tr):Prop:=∃ p q:Int×Int,iH p/\iH q/\0<q.1/\dd=[dF p,dF q]/\t=tF (lT (p.1*q.2) (p.2*q.1),lB (p.1*q.2) (p.2*q.1))
theorem Z1 {f f1:Addr}{fd aI:FuncData}{k:Nat}(F:aV K "over" "over" su f fd)(T:Txt mg)(cq:Kn P w K mg base ak (k+2) "fraction" f1 aI ["top", "bottom"] (spT K gw)):aJ P w K mg base ak (k+3) f fd ["one", "other"] (spT K Qq):=by
 refine bD F.d Z0 (fun dd t h=>by obtain⟨_,_,_,_,_,rfl,_⟩:=h;rfl) fun dd t h=>?_
 obtain⟨p,q,⟨p1,p2,p3⟩,⟨q1,q2,q3⟩,qp,rfl,rfl⟩:=h;refine⟨_,.inl rfl,?_⟩;have fH:∀ r:Int×Int,bu [di r.1,di r.2] 0=some (di r.1):=fun _=>rfl
 have eC:∀ r:Int×Int,bu [di r.1,di r.2] 1=some (di r.2):=fun _=>rfl
 refine ax (cH (Et.s (jD (aY (ae 1 rfl) av rfl (fH q)) av)) (tw (by omega))) ?_;exact aF (bL (Ev.s (aG cq (br _) (aj (d9 (aY (ae 0 rfl) av rfl (fH p)) (aY (ae 1 rfl) av rfl (eC q)) ⟨ck p3 (by decide),ck q2 (by decide)⟩) (aj (d9 (aY (ae 0 rfl) av rfl (eC p)) (aY (ae 1 rfl) av rfl (fH q)) ⟨ck p2 (by decide),ck q3 (by decide)⟩) aw)) ⟨_,_,NJ p1 qp,ck (uI p2 q3) (by decide),rfl,rfl⟩)))
def j8 (l:LI):Int:=l.foldl min (l.headD 0)
theorem Bj (l:LI):∀ a:Int,l.foldl min a<=a/\(∀ x ∈ l,l.foldl min a<=x)/\(l.foldl min a=a\/l.foldl min a ∈ l):=by
 induction l with
 |nil=>intro a;exact⟨YE _,fun _ h=>(nomatch h),.inl rfl⟩
 |cons y l ih =>
  intro a;obtain⟨h1,h2,h3⟩:=ih (min a y);rw[akn];refine⟨by omega,fun x hx=>?_,?_⟩
  ·rcases gr.mp hx with rfl | hx
   ·omega
   ·exact h2 x hx
  ·rcases h3 with h3 | h3
   ·rcases Int.le_total a y with z | z
    ·left;omega
    ·right;rw[h3,Int.min_eq_right z];exact .head _
   ·right;exact .tail _ h3
theorem N9 {l:LI}{x:Int}(h:x ∈ l):j8 l<=x:=(Bj l _).2.1 x h
theorem M3 {l:LI}(h:l ≠ []):j8 l ∈ l:=by
 cases l with
 |nil=>exact absurd rfl h
 |cons a r =>
  rcases (Bj (a::r) a).2.2 with z | z
  ·show(a::r).foldl min a ∈ _;rw[z];exact .head _
  ·exact z
theorem yD {W s:Int}(w0 : 0<W)(w1:W<2 ^ 70)(h0 : 0<=s)(h1:s<2 ^ 245):iH (fW W s):=by
 have a:=dI (s:=s) w0;have b:=yA (s:=s) w0;have c:=uH (s:=s) w0;exact⟨a,by omega,by omega⟩
abbrev qZ:Stmt:=top 26
theorem wB:aZ ["some", "least", "one"] ["some"] (aq qZ):=bt
def Ck (dd:List Dv)(t:Tr):Prop:=∃ (W:Int) (ss:LI),0<W/\W<2 ^ 70/\ss ≠ []/\(∀ s ∈ ss,0<=s/\s<2 ^ 245)/\dd=[cn W ss]/\t=tF (fW W (j8 ss))
theorem WO {f f1:Addr}{fd aI:FuncData}{k:Nat}(F:aV K "least_of" "least_of" qZ f fd)(T:Txt mg)(rS:Kn P w K mg base ak (k+1) "under" f1 aI ["one", "other"] (spT K yi)):aJ P w K mg base ak (k+2) f fd ["some"] (spT K Ck):=by
 refine bD F.d wB (fun dd t h=>by obtain⟨_,_,_,_,_,_,rfl,_⟩:=h;rfl) fun dd t h=>?_
 obtain⟨W,ss,w0,w1,ne,sb,rfl,rfl⟩:=h;refine⟨_,.inl rfl,?_⟩;have h0:bu (ss.map fun s=>dF (fW W s)) 0=some (dF (fW W (ss.headD 0))):=by
  cases ss with
  |nil=>exact absurd rfl ne
  |cons a r=>exact iV (j:=0) rfl
 refine ax (aP 1 (Ev.s (dU (ae 0 rfl) av rfl h0)) (fun _=>wB.nd)) ?_;have hm:∀ j,(ss.take j).foldl min (ss.headD 0) ∈ ss:=fun j=>by
  have hh:ss.headD 0 ∈ ss:=by
   cases ss with
   |nil=>exact absurd rfl ne
   |cons a r=>exact .head _
  rcases (Bj (ss.take j) (ss.headD 0)).2.2 with z | z
  ·rw[z];exact hh
  ·exact aba z
 refine ax (e7 (bp.s (bR (ae 0 rfl) rfl)) (bJ 2 (fun _=>wB.nd)) (fun j=>[some (.fz (cn W ss)),some (tF (fW W ((ss.take j).foldl min (ss.headD 0)))),none]) rfl (fun _=>rfl) (fun j d hd=>?_)) ?_
 ·obtain⟨x,hx,rfl⟩:=dH hd;have hb:=sb x (mT hx);have hl:=sb _ (hm j);refine⟨_,[some (.fz (cn W ss)),some (tF (fW W ((ss.take (j+1)).foldl min (ss.headD 0)))),some (tF (fW W x))],rfl,?_,[2],rfl⟩;rw[fA hx,ajr];show bw _ _ _ (.nx [_,some (tF (fW W (min ((ss.take j).foldl min (ss.headD 0)) x))),_]);generalize (ss.take j).foldl min (ss.headD 0)=m at hl;rcases aji x m with z | z
  ·rw[show min m x=x by omega];exact aF (oN (Et.s (eJ (Ev.to (aG rS (by show k+1<=k+1;omega) (aj (ae 2 rfl) (aj (ae 1 rfl) aw)) ⟨fW W x,fW W m,yD w0 w1 hb.1 hb.2,yD w0 w1 hl.1 hl.2,rfl,rfl⟩) (t':=tb true) (by rw[xh w0,u4 z])))) rfl (aF (aP 1 (Ev.s (ae 2 rfl)) (fun _=>wB.nd))))
  ·rw[show min m x=m by omega];exact aF (cH (Et.s (eJ (Ev.to (aG rS (by show k+1<=k+1;omega) (aj (ae 2 rfl) (aj (ae 1 rfl) aw)) ⟨fW W x,fW W m,yD w0 w1 hb.1 hb.2,yD w0 w1 hl.1 hl.2,rfl,rfl⟩) (t':=tb false) (by rw[xh w0,tw (by omega)])))) rfl)
 ·rw[aa,Mn];exact aF (bL (Ev.s (ae 1 rfl)))
def WM:Int:=2799360000000
structure gJ where
 len:Int
 ay:LI
 fin:LI
def dN (l:LI):LI:=(ah l.length).filter fun x=>decide (af l x=0)
def bB (fo:LL)(l:LI):LI:=fo.map fun o=>(fP o (dN l)).headD 0
def mv (l ay:LI):LI:=((ah l.length).filter fun x=>ay.contains x).map fun x=>af l x / (ay.count x:Int)
def cQ (l ay:LI)(τ:Int):Int:=j8 (τ::mv l ay)
def dq (l ay:LI)(len:Int):LI:=(ah l.length).map fun x=>af l x-len*(ay.count x:Int)
def nA (fo:LL)(l:LI)(τ:Int):gJ:=⟨cQ l (bB fo l) τ,bB fo l,(dN (dq l (bB fo l) (cQ l (bB fo l) τ))).filter fun x=>(bB fo l).contains x⟩
def gO:Nat->LL->LI->Int->List gJ
 |0,_,_,_=>[]
 |n+1,fo,l,τ => if τ=0 then []else nA fo l τ::gO n fo (dq l (bB fo l) (cQ l (bB fo l) τ)) (τ - cQ l (bB fo l) τ)
theorem wR (n:Nat)(fo:LL)(l:LI):gO n fo l 0=[]:=by cases n<;>simp[gO]
theorem wG {n:Nat}{fo:LL}{l:LI}{τ:Int}(h : τ ≠ 0):gO (n+1) fo l τ=nA fo l τ::gO n fo (dq l (bB fo l) (cQ l (bB fo l) τ)) (τ - cQ l (bB fo l) τ):=by rw[gO,mf h]
theorem xk (g:Int->Int){m:Nat}{x:Int}(h0 : 0<=x)(h1:x<m):af ((ah m).map g) x=g x:=by
 unfold af ah;rw[gz,ba,ee,CS (by omega)];show g (0+((x.toNat:Nat):Int))=g x;congr 1;omega
theorem CW (l ay:LI)(len:Int):(dq l ay len).length=l.length:=by unfold dq;rw[aa,jz]
theorem iZ {l:LI}{x:Int}(h0 : 0<=x)(h1:x<l.length):af l x ∈ l:=by
 unfold af;rw[ba,ab (show x.toNat<l.length by omega)];exact MW _
def tI (l:LI):Nat:=((ah l.length).filter fun x=>decide (af l x ≠ 0)).length
structure mw (m:Nat) (fo:LL):Prop where
 o6:fo.length<=6
 none:∀ o ∈ fo,(m:Int) ∈ o
 cF:∀ o ∈ fo,∀ x ∈ o,0<=x/\x<=m
 nd:∀ o ∈ fo,o.Nodup
 len:∀ o ∈ fo,o.length<=100
structure lq (n m:Nat) (l:LI) (τ:Int):Prop where
 len:l.length=m
 m6:m<=6
 lb:∀ x ∈ l,0<=x/\x<=9*WM/\((60 ^ n:Nat):Int) ∣ x
 t0 : 0<=τ
 t1 : τ<=WM
 td:((60 ^ n:Nat):Int) ∣ τ
 nz : τ ≠ 0->tI l<n
theorem Mm {l:LI}{x:Int}:x ∈ dN l ↔ (0<=x/\x<l.length)/\af l x=0:=by
 unfold dN;rw[AM,aW,Na]
theorem Mo {m:Nat}{o:LI}{l:LI}(hl:l.length=m)(ho:(m:Int) ∈ o):∃ x r,fP o (dN l)=x::r/\x ∈ o/\x ∉ dN l:=by
 have hm:(m:Int) ∈ fP o (dN l):=by
  unfold fP;refine AM.mpr ⟨ho,?_⟩;have:(m:Int) ∉ dN l:=fun z=>by have:=(Mm.mp z).1;omega
  simpa using this
 cases h:fP o (dN l)with
 |nil=>rw[h]at hm;cases hm
 |cons x r =>
  have hx:x ∈ fP o (dN l):=by rw[h];exact .head _
  unfold fP at hx;obtain⟨h1,h2⟩:=AM.mp hx;exact⟨x,r,rfl,h1,by simpa using h2⟩
theorem Pq {m:Nat}{fo:LL}{l:LI}(F:mw m fo)(hl:l.length=m){x:Int}(hx:x ∈ bB fo l) : 0<=x/\x<=m/\x ∉ dN l:=by
 unfold bB at hx;obtain⟨o,ho,rfl⟩:=i4.mp hx;obtain⟨y,r,e,h1,h2⟩:=Mo hl (F.none o ho);rw[e];have:=F.cF o ho y h1;exact⟨this.1,this.2,h2⟩
theorem xS (fo:LL)(l:LI):(bB fo l).length=fo.length:=by unfold bB;rw[aa]
theorem xU {l ay:LI}{q:Int}(h:q ∈ mv l ay):∃ x:Int,0<=x/\x<l.length/\x ∈ ay/\q=af l x / (ay.count x:Int):=by
 unfold mv at h;obtain⟨x,hx,rfl⟩:=i4.mp h;obtain⟨h1,h2⟩:=AM.mp hx;have:=aW.mp h1;exact⟨x,this.1,this.2,by simpa using h2,rfl⟩
theorem abq {l ay:LI}{x:Int}(h0 : 0<=x)(h1:x<l.length)(h2:x ∈ ay):af l x / (ay.count x:Int) ∈ mv l ay :=
 i4.mpr ⟨x,AM.mpr ⟨aW.mpr ⟨h0,h1⟩,by simpa using h2⟩,rfl⟩
theorem Qr {c:Nat}(h1 : 1<=c)(h6:c<=6):(c:Int) ∣ 60:=by
 have:c=1\/c=2\/c=3\/c=4\/c=5\/c=6:=by omega
 rcases this with rfl | rfl | rfl | rfl | rfl | rfl<;>decide
theorem abr {n:Nat}{v:Int}{c:Nat}(h1 : 1<=c)(h6:c<=6)(hd:((60 ^ (n+1):Nat):Int) ∣ v):(c:Int) ∣ v/\((60 ^ n:Nat):Int) ∣ v / c/\v / c*c=v:=by
 obtain⟨k,rfl⟩:=hd;obtain⟨e,he⟩:=Qr h1 h6;have e1:((60 ^ (n+1):Nat):Int)*k=(c:Int)*(((60 ^ n:Nat):Int)*(e*k)):=by
  rw[Nat.pow_succ,ajL,show((60:Nat):Int)=c*e from he,ES,ES,Int.mul_left_comm]
 have hc:(c:Int) ≠ 0:=by omega
 rw[e1,LB _ hc];exact⟨ajY _ _,ajY _ _,Me _ _⟩
structure abt (n m:Nat) (l ay:LI) (len τ:Int):Prop where
 pos : 0<len
 le:len<=τ
 part:((60 ^ n:Nat):Int) ∣ len
 has:∀ x:Int,0<=x->x<m->len*(ay.count x:Int)<=af l x
 next:lq n m (dq l ay len) (τ - len)
theorem xV {n m:Nat}{fo:LL}{l:LI}{τ:Int}(F:mw m fo)(S:lq (n+1) m l τ)(ht : τ ≠ 0):abt n m l (bB fo l) (cQ l (bB fo l) τ) τ:=by
 have hl:=S.len;have sW:=xS fo l;have nY:∀ x ∈ bB fo l,0<=x/\x<=m/\x ∉ dN l:=fun x hx=>Pq F hl hx
 generalize bB fo l=ay at sW nY;have o6:=F.o6;have cnt:∀ x ∈ ay,1<=ay.count x/\ay.count x<=6:=fun x hx=>⟨List.count_pos_iff.mpr hx,zd ajt (by omega)⟩
 have lb:∀ x:Int,0<=x->x<m->0<=af l x/\af l x<=9*WM/\((60 ^ (n+1):Nat):Int) ∣ af l x:=fun x h0 h1=>S.lb _ (iZ h0 (by omega))
 have Q9:∀ x ∈ ay,x<m->0<af l x:=fun x hx h1=>by
  obtain⟨h0,_,h2⟩:=nY x hx;have a:=(lb x h0 h1).1;rcases Zs a with z | z
  ·exact z
  ·exact absurd (Mm.mpr ⟨⟨h0,by omega⟩,z.symm⟩) h2
 have z0:∀ x ∈ ay,x<m->0<af l x / (ay.count x:Int)/\((60 ^ n:Nat):Int) ∣ af l x / (ay.count x:Int)/\af l x / (ay.count x:Int)*(ay.count x:Int)=af l x:=fun x hx h1=>by
  obtain⟨h0,_,_⟩:=nY x hx;obtain⟨c1,c6⟩:=cnt x hx;obtain⟨_,a,b⟩:=abr c1 c6 (lb x h0 h1).2.2;have p:=Q9 x hx h1;refine⟨?_,a,b⟩;rcases aji 0 (af l x / (ay.count x:Int))with z | z
  ·exact z
  ·have:af l x / (ay.count x:Int)*(ay.count x:Int)<=0:=Int.mul_nonpos_of_nonpos_of_nonneg z (by omega);omega
 have Fi:((60 ^ n:Nat):Int) ∣ ((60 ^ (n+1):Nat):Int):=⟨60,by rw[Nat.pow_succ,ajL];rfl⟩
 have yY:cQ l ay τ ∈ τ::mv l ay:=M3 (by simp);have GW:∀ x,x ∈ τ::mv l ay->cQ l ay τ<=x:=fun x hx=>N9 hx
 generalize cQ l ay τ=len at yY GW;have h1 : 0<len:=by
  rcases gr.mp yY with z | z
  ·have:=S.t0;omega
  ·obtain⟨x,h0,h1,h2,rfl⟩:=xU z;exact(z0 x h2 (by omega)).1
 have h2:len<=τ:=GW τ (.head _);have h3:((60 ^ n:Nat):Int) ∣ len:=by
  rcases gr.mp yY with z | z
  ·rw[z];exact US Fi S.td
  ·obtain⟨x,a0,a1,a2,e⟩:=xU z;rw[e];exact(z0 x a2 (by omega)).2.1
 have h4:∀ x:Int,0<=x->x<m->len*(ay.count x:Int)<=af l x:=fun x a b=>by
  by_cases hx:x ∈ ay
  ·have q:=GW _ (.tail _ (abq a (by omega) hx));have e:=(z0 x hx b).2.2;rw[<- e];exact AL q (by omega)
  ·rw[akE.mpr hx];have:=(lb x a b).1;show len*(0:Int)<=_;omega
 refine⟨h1,h2,h3,h4,?_⟩;have Ra:∀ x:Int,0<=x->x<m->af (dq l ay len) x=af l x-len*(ay.count x:Int):=fun x a b=>by
  unfold dq;exact xk _ a (by omega)
 have aiU : 0<WM:=by decide
 refine⟨by rw[CW,hl],S.m6,fun y hy=>?_,by omega,by have:=S.t1;omega,Int.dvd_sub (US Fi S.td) h3,fun hn=>?_⟩
 ·unfold dq at hy;obtain⟨x,hx,rfl⟩:=i4.mp hy;obtain⟨a,b⟩:=aW.mp hx;have a4:=h4 x a (by omega);obtain⟨b1,b2,b3⟩:=lb x a (by omega);have : 0<=len*(ay.count x:Int):=Nd (by omega) (by omega);exact⟨by omega,by omega,Int.dvd_sub (US Fi b3) (Int.dvd_mul_of_dvd_left h3)⟩
 ·have hq:len ∈ mv l ay:=by
   rcases gr.mp yY with z | z
   ·omega
   ·exact z
  obtain⟨x,a,b,hx,e⟩:=xU hq;have zero:af (dq l ay len) x=0:=by
   rw[Ra x a (by omega),e,(z0 x hx (by omega)).2.2];omega
  have pos:=Q9 x hx (by omega);have key:tI (dq l ay len)<tI l:=by
   unfold tI;rw[CW];have e1:((ah l.length).filter fun x=>decide (af (dq l ay len) x ≠ 0))=((ah l.length).filter fun x=>decide (af l x ≠ 0)).filter fun x=>decide (af (dq l ay len) x ≠ 0):=by
    rw[List.filter_filter];refine akS fun y hy=>?_
    obtain⟨a',b'⟩:=aW.mp hy;rw[WJ,BS,Na,Na];refine⟨fun z=>⟨z,fun w=>z ?_⟩,fun z=>z.1⟩;rw[Ra y a' (by omega)];have:=h4 y a' (by omega);have : 0<=len*(ay.count y:Int):=Nd (by omega) (by omega);omega
   rw[e1];refine List.length_filter_lt_length_iff_exists.mpr ⟨x,AM.mpr ⟨aW.mpr ⟨a,b⟩,u4 (by omega)⟩,?_⟩;rw[zero];decide
  have:=S.nz ht;omega
theorem Cm {m:Nat}{fo:LL}(F:mw m fo):∀ (n:Nat) (l:LI) (τ:Int),lq n m l τ->∀ s ∈ gO n fo l τ,∃ l',l'.length=m/\s.ay=bB fo l'/\0<s.len/\s.len<=WM
 |0,l,τ,_,s,hs=>by cases hs
 |n+1,l,τ,S,s,hs=>by
  by_cases ht : τ=0
  ·rw[ht,wR]at hs;cases hs
  ·rw[wG ht]at hs;have ok:=xV F S ht;rcases gr.mp hs with rfl | hs
   ·exact⟨l,S.len,rfl,ok.pos,aka ok.le S.t1⟩
   ·exact Cm F n _ _ ok.next s hs
theorem M4 {m:Nat}{fo:LL}(F:mw m fo):∀ (n:Nat) (l:LI) (τ:Int),lq n m l τ->((gO n fo l τ).map gJ.len).sum=τ
 |0,l,τ,S=>by
  by_cases ht : τ=0
  ·rw[ht];rfl
  ·exact absurd (S.nz ht) (ajg _)
 |n+1,l,τ,S=>by
  by_cases ht : τ=0
  ·rw[ht,wR];rfl
  ·rw[wG ht,i8,ue,M4 F n _ _ (xV F S ht).next];show cQ l (bB fo l) τ+_=_;omega
theorem M5:∀ (n:Nat) (fo:LL) (l:LI) (τ:Int),(gO n fo l τ).length<=n
 |0,_,_,_=>br _
 |n+1,fo,l,τ => by
  rw[gO];split
  ·exact DO _
  ·rw[AN];have:=M5 n fo (dq l (bB fo l) (cQ l (bB fo l) τ)) (τ - cQ l (bB fo l) τ);omega
theorem abu (l:LI):tI l<=l.length:=by
 unfold tI;exact zd (IS _ _) (by rw[jz];exact br _)
def gN (c:LI)(os:LL):List gJ:=gO 7 (os.map (cP c.length)) (c.map (·*WM)) WM
theorem Cp {c:LI}(h6:c.length<=6)(hc:∀ x ∈ c,0<=x/\x<=9):lq 7 c.length (c.map (·*WM)) WM:=by
 have hw:WM=((60 ^ 7:Nat):Int):=by decide
 refine⟨by rw[aa],h6,fun x hx=>?_,by decide,YE _,by rw[<- hw];exact ak3 _,fun _=>?_⟩
 ·obtain⟨y,hy,rfl⟩:=i4.mp hx;obtain⟨a,b⟩:=hc y hy;refine⟨Nd a (by decide),AL b (by decide),by rw[<- hw];exact akY _ _⟩
 ·have:=abu (c.map (·*WM));rw[aa]at this;omega
end
section
variable {P:Program}{w:World}{K:Frag}{mg:Str->Option Value}{base:Heap}
theorem Z2 {n:Nat}{o:LI}(h:∀ x ∈ o,0<=x/\x<n):∀ x ∈ cP n o,0<=x/\x<=n:=fun x hx=>by
 unfold cP lU at hx;rcases wb.mp hx with z | z
 ·rcases wb.mp z with z | z
  ·have:=h x z;omega
  ·rw[rf]at z;omega
 ·obtain⟨k,hk,rfl⟩:=i4.mp z;have:=VT.mp (AM.mp hk).1;omega
theorem Y0 {n:Nat}(o:LI):(cP n o).length<=o.length+1+n:=by
 have:=BH n o;unfold cP;simp only[qr,EM];omega
theorem fk : 0<WM:=by decide
theorem mO:WM<2 ^ 70:=by decide
theorem Z3 {α:Type}(l:LI)(f:Int->α):l.map f=(ah l.length).map fun x=>f (af l x):=by
 unfold ah;rw[gz,<- tS l 0 f];refine ma fun j hj=>?_
 show f ((l[j]?).getD 0)=f (af l (0+(j:Int)));unfold af;rw[Zp,zw,ba]
theorem abv {α β:Type}(l:List α)(d : α)(f : α->β):l.map f=(ah l.length).map fun x=>f (l.getD x.toNat d):=by
 unfold ah;rw[gz,<- tS l d f];refine ma fun j hj=>?_
 show f ((l[j]?).getD d)=f (l.getD (0+(j:Int)).toNat d);rw[Zp,zw,ba]
theorem Qs (l:LI)(f:Int->Dv):hZ (l.map f)=(ah l.length).map fun x=>.tup [di x,f (af l x)]:=by
 rw[Z3 l f];unfold hZ ah;rw[gz,aa,Cf,List.zipWith_map_right,List.zipWith_self,gz];refine ma fun j _=>?_
 show Dv.tup [di (j:Int),f (af l (0+(j:Int)))]=Dv.tup [di (0+(j:Int)),f (af l (0+(j:Int)))];rw[Zp]
theorem M6 {W s:Int}(h : 0<W):cJ (dF (fW W s)) (dF (lT 0 1,lB 0 1))=decide (s=0):=by
 rw[Ph,lV,<- xP h,akh];exact⟨fun e=>O0 h e,fun e=>by rw[e]⟩
theorem Tq (p:Int×Int):fj (er (tF p))<=50:=zd (DH p) (by decide)
structure tJ (l:LI):Prop where
 len:l.length<=6
 b:∀ x ∈ l,0<=x/\x<=9*WM/\(60:Int) ∣ x
theorem tJ.at {l:LI}(h:tJ l){x:Int}(h0 : 0<=x)(h1:x<l.length) : 0<=af l x/\af l x<=9*WM/\(60:Int) ∣ af l x:=h.b _ (iZ h0 h1)
abbrev qB:Stmt:=top 48
theorem La:aZ ["left", "eaten", "time_left", "things"] ["left", "eaten", "time_left"] (aq qB):=bt
def M7 (dd:List Dv)(t:Tr):Prop:=∃ (l ay:LI) (τ:Int),tJ l/\ay.length<=6/\0<=τ/\τ<=WM/\dd=[cn WM l,dis ay,dF (fW WM τ)]/\t=tF (fW WM (cQ l ay τ))
theorem Vw {f f1 f2 f3:Addr}{fd aI fd2 eE:FuncData}{k:Nat}{tk:Tok}(F:aV K "next_length" "next_length" qB f fd)(T:Txt mg)(cq:Kn P w K mg base ak (k+2) "fraction" f1 aI ["top", "bottom"] (spT K gw))(B1:Binds K aI ["top", "bottom"] [.int 1 tk])(abw:Kn P w K mg base ak (k+3) "over" f2 fd2 ["one", "other"] (spT K Qq))(Bt:Kn P w K mg base ak (k+2) "least_of" f3 eE ["some"] (spT K Ck)):aJ P w K mg base ak (k+4) f fd ["left", "eaten", "time_left"] (spT K M7):=by
 refine bD F.d La (fun dd t h=>by obtain⟨_,_,_,_,_,_,_,rfl,_⟩:=h;rfl) fun dd t h=>?_
 obtain⟨l,ay,τ,iQ,e6,t0,t1,rfl,rfl⟩:=h;refine⟨_,.inl rfl,?_⟩;have big : 1000<sizeLine:=by decide
 have w0:=fk;have l6:=iQ.len;have sW:(((l.map fun s=>dF (fW WM s)).length:Nat):Int)=l.length:=by rw[aa]
 have vW:jj 0 (((l.map fun s=>dF (fW WM s)).length:Nat):Int).toNat=(ah l.length).map di:=by
  rw[sW,zw];unfold ah;rw[gz];rfl
 refine ax (i5 3 (j6 (dD.as (d:=dis ((ah l.length).filter fun x=>ay.contains x)) (Fc (own:=["thing"]) (fr:=[1]) (ah l.length) di (fun x=>ay.contains x) ti (bp.to (iE T.gL (bS T.bQ (ae 0 rfl) (.inl rfl)) (by rw[sW];omega)) vW) (bJ 0 (fun _=>by show List.Nodup (["thing", "eaten"]:List Str);decide)) (by decide) (by rw[jz];omega) (fun x hx=>⟨_,rfl,by exact g9 (yu (ae 0 rfl) (ae 1 rfl) rfl (by with_unfolding_all rfl)),fun _=>by exact ae 0 rfl⟩) (fun dd=>by cases dd<;>rfl)) (eZ _))) (fun i=>bV) (fun _=>La.nd)) ?_;have Ts:∀ x ∈ (ah l.length).filter (fun x=>ay.contains x),0<=x/\x<l.length/\1<=ay.count x/\ay.count x<=6:=fun x hx=>by
  obtain⟨h1,h2⟩:=AM.mp hx;have:=aW.mp h1;exact⟨this.1,this.2,List.count_pos_iff.mpr (by simpa using h2),zd ajt e6⟩
 have hlen:((ah l.length).filter (fun x=>ay.contains x)).length<=6:=zd (IS _ _) (by rw[jz];exact l6);have eq:mv l ay=((ah l.length).filter fun x=>ay.contains x).map fun x=>af l x / (ay.count x:Int):=rfl
 have hq:∀ s ∈ τ::mv l ay,0<=s/\s<=100*WM:=fun s hs=>by
  rcases gr.mp hs with rfl | hs
  ·omega
  ·obtain⟨x,a0,a1,_,rfl⟩:=xU hs;have:=iQ.at a0 a1;have d1:=ajf this.1 (show(0:Int)<=(ay.count x:Int) by omega);have d2:=aja (ay.count x:Int) this.1;omega
 unfold cQ;rw[eq]at hq ⊢;generalize (ah l.length).filter (fun x=>ay.contains x)=th at Ts hlen hq;show bw _ _ [some (.fz (cn WM l)),some (.fz (dis ay)),some (tF (fW WM τ)),some (.fz (dis th))] _;refine aF (bL (Ev.s (aG Bt (by show k+2<=k+3;omega) (aj (Ev.as (d:=cn WM (τ::th.map fun x=>af l x / (ay.count x:Int))) (yb (xs:=[dF (fW WM τ)]) (ys:=th.map fun x=>dF (fW WM (af l x / (ay.count x:Int)))) (fD (aj (ae 2 rfl) aw) (by show 1<=sizeLine;decide)) (fL (own:=["thing"]) (fr:=[0,1]) th di (fun x=>tF (fW WM (af l x / (ay.count x:Int)))) (fun i=>bV) (bR (ae 3 rfl) rfl) (bJ 0 (fun _=>by show List.Nodup (["thing", "left", "eaten"]:List Str);decide)) (by decide) (by omega) (fun x hx=>⟨_,rfl,by
   obtain⟨x0,x1,c1,c6⟩:=Ts x hx;obtain⟨l0,l9,Tu⟩:=iQ.at x0 x1;have fQ:(0:Int)<(ay.count x:Int):=by omega
   exact Ev.to (aG abw (br _) (aj (dU (ae 1 rfl) (ae 0 rfl) rfl (jB (fun s=>dF (fW WM s)) x0 x1)) (aj (Ev.to (jR cq B1 (by show k+2<=k+3;omega) (aj (wZ (ae 2 rfl) rfl (ae 0 rfl)) aw) ⟨(ay.count x:Int),1,by decide,by decide,rfl,rfl⟩) (t':=tF ((ay.count x:Int),1)) (by rw[lV])) aw)) ⟨fW WM (af l x),((ay.count x:Int),1),sP fk mO l0 (by omega),Pm (by omega) (by omega),fQ,rfl,rfl⟩) (by rw[<- ZZ fk fQ (US (Qr c1 c6) Tu)])⟩) (fun dd=>by cases dd<;>rfl)) rfl (dk _ _) (by rw[aa];show 1+_<=_;omega)) (by rw[oM];show Dv.lst (dF (fW WM τ)::_)=Dv.lst (dF (fW WM τ)::_);rw[gz];rfl)) aw) ⟨WM,_,fk,mO,by simp,fun s hs=>⟨(hq s hs).1,ajR (hq s hs).2 (by decide)⟩,rfl,rfl⟩)))
abbrev qC:Stmt:=top 49
theorem Vx:aZ ["left", "eaten", "length"] ["left", "eaten", "length"] (aq qC):=bt
def Lx (dd:List Dv)(t:Tr):Prop:=∃ (l ay:LI) (len:Int),tJ l/\ay.length<=6/\0<=len/\len<=WM/\dd=[cn WM l,dis ay,dF (fW WM len)]/\t=.ow ((dq l ay len).map fun s=>tF (fW WM s))
theorem Vy {f f1 f2 f3:Addr}{fd aI fd2 eE:FuncData}{k:Nat}{tk:Tok}(F:aV K "left_behind" "left_behind" qC f fd)(T:Txt mg)(cq:Kn P w K mg base ak (k+2) "fraction" f1 aI ["top", "bottom"] (spT K gw))(B1:Binds K aI ["top", "bottom"] [.int 1 tk])(CY:Kn P w K mg base ak (k+3) "minus" f2 fd2 ["one", "other"] (spT K DK))(Z4:Kn P w K mg base ak (k+3) "times" f3 eE ["one", "other"] (spT K Pn)):aJ P w K mg base ak (k+4) f fd ["left", "eaten", "length"] (spT K Lx):=by
 refine bD F.d Vx (fun dd t h=>by obtain⟨_,_,_,_,_,_,_,rfl,_⟩:=h;rfl) fun dd t h=>?_
 obtain⟨l,ay,len,iQ,e6,t0,t1,rfl,rfl⟩:=h;refine⟨_,.inl rfl,?_⟩;have big : 1000<sizeLine:=by decide
 have w0:=fk;have l6:=iQ.len;unfold dq;rw[gz];refine aF (bL (Ev.s (fL (own:=["thing", "some"]) (fr:=[2,1]) (ah l.length) (fun x=>.tup [di x,dF (fW WM (af l x))]) (fun x=>tF (fW WM (af l x-len*(ay.count x:Int)))) (fun i=>bV) (bp.to (iU T.iD (ae 0 rfl) rfl) (Qs l fun s=>dF (fW WM s))) (eK 0 1 (fun _=>by show List.Nodup (["thing", "some", "length", "eaten"]:List Str);decide)) (by decide) (by rw[jz];omega) (fun x hx=>⟨_,rfl,by
   obtain⟨x0,x1⟩:=aW.mp hx;obtain⟨l0,l9,Tu⟩:=iQ.at x0 x1;have c6:ay.count x<=6:=zd ajt e6;have c0 : 0<=len*(ay.count x:Int):=Nd t0 (by omega);have c9:len*(ay.count x:Int)<=WM*6:=Int.mul_le_mul t1 (by omega) (by omega) (by omega);exact Ev.to (aG CY (br _) (aj (ae 1 rfl) (aj (Ev.to (aG Z4 (br _) (aj (ae 2 rfl) (aj (Ev.to (jR cq B1 (by show k+2<=k+3;omega) (aj (wZ (ae 3 rfl) rfl (ae 0 rfl)) aw) ⟨(ay.count x:Int),1,by decide,by decide,rfl,rfl⟩) (t':=tF ((ay.count x:Int),1)) (by rw[lV])) aw)) ⟨fW WM len,((ay.count x:Int),1),sP fk mO t0 (by omega),Pm (by omega) (by omega),rfl,rfl⟩) (t':=tF (fW WM (len*(ay.count x:Int)))) (by rw[<- YV fk])) aw)) ⟨fW WM (af l x),fW WM (len*(ay.count x:Int)),sP fk mO l0 (by omega),sP fk mO c0 (by omega),rfl,rfl⟩) (by rw[M1 fk])⟩) (fun dd=>by rcases dd with _ | ⟨a,_ | ⟨b,dd⟩⟩<;>rfl))))
abbrev qo:Stmt:=top 50
theorem Vm:aZ ["left"] ["left"] (aq qo):=bt
def Pr (dd:List Dv)(t:Tr):Prop:=∃ l:LI,l.length<=6/\dd=[cn WM l]/\t=aU (dN l)
theorem Vn {f f1:Addr}{fd aI:FuncData}{k:Nat}{tk:Tok}(F:aV K "ended_things" "ended_things" qo f fd)(T:Txt mg)(cq:Kn P w K mg base ak (k+2) "fraction" f1 aI ["top", "bottom"] (spT K gw))(B1:Binds K aI ["top", "bottom"] [.int 1 tk]):aJ P w K mg base ak (k+3) f fd ["left"] (spT K Pr):=by
 refine bD F.d Vm (fun dd t h=>by obtain⟨_,_,rfl,_⟩:=h;rfl) fun dd t h=>?_
 obtain⟨l,l6,rfl,rfl⟩:=h;refine⟨_,.inl rfl,?_⟩;have big : 1000<sizeLine:=by decide
 refine aF (bL (Ev.s (kJ (own:=["thing", "some"]) (fr:=[]) (ah l.length) (fun x=>.tup [di x,dF (fW WM (af l x))]) (fun x=>decide (af l x=0)) ti (fun i=>bV) (bp.to (iU T.iD (ae 0 rfl) rfl) (Qs l fun s=>dF (fW WM s))) (eK 0 1 (fun _=>by show List.Nodup (["thing", "some"]:List Str);decide)) (by decide) (by rw[jz];omega) (fun x hx=>⟨_,rfl,by
   exact g9 (Et.to (aaK (tb':=tF (lT 0 1,lB 0 1)) (ae 1 rfl) (jR cq B1 (br _) (aj av aw) ⟨0,1,by decide,by decide,rfl,rfl⟩) (.inr ⟨_,_,rfl,rfl⟩) (Tq _)) (M6 fk)),fun _=>by exact ae 0 rfl⟩) (fun dd=>by rcases dd with _ | ⟨a,_ | ⟨b,dd⟩⟩<;>rfl))))
def sQ (s:gJ):Dv:=.tup [dF (fW WM s.len),dis s.ay,dis s.fin]
abbrev DL (st:List gJ):Dv:=.lst (st.map sQ)
abbrev qL:Stmt:=top 51
theorem kC:aZ ["table", "orders", "left", "time_left", "steps", "gone", "eaten", "length"] ["table"] (aq qL):=bt
def Pt (dd:List Dv)(t:Tr):Prop:=∃ (c:LI) (os:LL),gq c os/\mw c.length (os.map (cP c.length))/\dd=[gP c os]/\t=.ow ((gN c os).map fun s=>.fz (sQ s))
theorem lq.iQ {n m:Nat}{l:LI}{τ:Int}(S:lq (n+1) m l τ):tJ l:=by
 refine⟨by rw[S.len];exact S.m6,fun x hx=>?_⟩;obtain⟨a,b,c⟩:=S.lb x hx;refine⟨a,b,US ?_ c⟩;exact⟨((60 ^ n:Nat):Int),by rw[Nat.pow_succ,ajL,Me];rfl⟩
theorem VR {f f1 f2 f3 f4 f5 f6 f7:Addr}{fd aI fd2 eE mN vX vY vZ:FuncData}{k:Nat}{tk:Tok}(F:aV K "meal_steps" "meal_steps" qL f fd)(T:Txt mg)(cq:Kn P w K mg base ak (k+2) "fraction" f1 aI ["top", "bottom"] (spT K gw))(B1:Binds K aI ["top", "bottom"] [.int 1 tk])(CY:Kn P w K mg base ak (k+3) "minus" f2 fd2 ["one", "other"] (spT K DK))(Bh:Kn P w K mg base ak (k+1) "full_order" f3 eE ["table", "asker"] (spT K Eo))(Bi:Kn P w K mg base ak (k+1) "first_left" f4 mN ["order", "gone"] (spT K DE))(VS:Kn P w K mg base ak (k+4) "next_length" f5 vX ["left", "eaten", "time_left"] (spT K M7))(VU:Kn P w K mg base ak (k+4) "left_behind" f6 vY ["left", "eaten", "length"] (spT K Lx))(Lb:Kn P w K mg base ak (k+3) "ended_things" f7 vZ ["left"] (spT K Pr)):aJ P w K mg base ak (k+5) f fd ["table"] (spT K Pt):=by
 refine bD F.d kC (fun dd t h=>by obtain⟨_,_,_,_,rfl,_⟩:=h;rfl) fun dd t h=>?_
 obtain⟨c,os,tab,iC,rfl,rfl⟩:=h;refine⟨_,.inl rfl,?_⟩;have big : 1000<sizeLine:=by decide
 have c6:=tab.c6;have o6:=tab.o6;have nG:(((os.map dis).length:Nat):Int)=os.length:=by rw[aa]
 have vW:jj 0 (((os.map dis).length:Nat):Int).toNat=(ah os.length).map di:=by
  rw[nG,zw];unfold ah;rw[gz];rfl
 have eO:er (.ow ((ah os.length).map fun x=>aU (cP c.length (os.getD x.toNat []))))=.lst ((os.map (cP c.length)).map dis):=by
  rw[dk];show Dv.lst _=Dv.lst (List.map _ (List.map _ _));rw[gz,abv os [] (dis ∘ cP c.length)];congr 1;exact ma fun x _=>eZ _
 refine ax (i5 1 (j6 (dD.as (j7 (own:=["asker"]) (fr:=[0]) (ah os.length) di (fun x=>aU (cP c.length (os.getD x.toNat []))) (bp.to (iE T.gL (bS T.bQ (aY (d:=.lst (os.map dis)) (ae 0 rfl) av rfl rfl) (.inl rfl)) (by rw[nG];omega)) vW) (bJ 0 (fun _=>by show List.Nodup (["asker", "table"]:List Str);decide)) (by decide) (by rw[jz];omega) (fun x hx=>⟨_,rfl,by
   obtain⟨x0,x1⟩:=aW.mp hx;have hx:os[x.toNat]?=some (os.getD x.toNat []):=by rw[ba,ab (show x.toNat<os.length by omega)];rfl
   have hm:=mT hx;have hl:=rn (tab.nd _ hm) (tab.cF _ hm);have gV:bu os x=some (os.getD x.toNat []):=by
    have:=Yt (k:=x.toNat) hx;rwa [show((x.toNat:Nat):Int)=x by omega]at this
   exact aG Bh (by show k+1<=k+4;omega) (aj (ae 1 rfl) (aj (ae 0 rfl) aw)) ⟨c,os,x,os.getD x.toNat [],by omega,by omega,gV,rfl,rfl⟩⟩) (fun dd=>by cases dd<;>rfl)) eO)) (fun i=>bV) (fun _=>kC.nd)) ?_
 have eL:er (.ow (c.map fun x=>tF (fW WM (x*WM))))=cn WM (c.map (·*WM)):=by
  rw[dk];show Dv.lst _=Dv.lst (List.map _ (List.map _ _));rw[gz];rfl
 refine ax (i5 2 (j6 (dD.as (j7 (own:=["count"]) (fr:=[]) c di (fun x=>tF (fW WM (x*WM))) (bR (aY (d:=dis c) (ae 0 rfl) av rfl rfl) rfl) (bJ 0 (fun _=>by show List.Nodup (["count"]:List Str);decide)) (by decide) (by omega) (fun x hx=>⟨_,rfl,by
   exact Ev.to (jR cq B1 (by show k+2<=k+4;omega) (aj (ae 0 rfl) aw) ⟨x,1,by decide,by decide,rfl,rfl⟩) (by rw[lV,abp fk])⟩) (fun dd=>by cases dd<;>rfl)) eL)) (fun i=>bV) (fun _=>kC.nd)) ?_
 refine ax (aP 3 (bx.to (t':=tF (fW WM WM)) (Ev.s (jR cq B1 (by show k+2<=k+4;omega) (aj av aw) ⟨1,1,by decide,by decide,rfl,rfl⟩)) (by rw[lV,NV fk])) (fun _=>kC.nd)) ?_;refine ax (aP 4 (Ev.s (fD aw (DO _))) (fun _=>kC.nd)) ?_;have Tv:=Cp tab.c6 tab.cnt;have e0:gN c os=gO 7 (os.map (cP c.length)) (c.map (·*WM)) WM:=rfl;generalize gN c os=res at e0;generalize c.map (·*WM)=l0 at Tv e0;generalize os.map (cP c.length)=fo at iC e0;refine tU (fun p:(List gJ×LI)×(Int×Nat)=>[some (.fz (gP c os)),some (.fz (.lst (fo.map dis))),some (.fz (cn WM p.1.2)),some (tF (fW WM p.2.1)),some (.ow (p.1.1.map fun s=>.fz (sQ s))),none,none,none]) (fun p=>lq p.2.2 c.length p.1.2 p.2.1/\p.1.1++gO p.2.2 fo p.1.2 p.2.1=res/\p.1.1.length<=7-p.2.2/\p.2.2<=7) (fun p=>!decide (p.2.1=0)) (fun p=>p.2.2) (([],l0),(WM,7)) rfl ⟨Tv,e0.symm,by show 0<=_;omega,br _⟩ (fun p hp=>?_) (fun p hp h=>?_) (fun p hp h=>?_)
 ·refine Et.s (Et.to (lQ (tb':=tF (lT 0 1,lB 0 1)) (ae 3 rfl) (jR cq B1 (by show k+2<=k+4;omega) (aj av aw) ⟨0,1,by decide,by decide,rfl,rfl⟩) (.inr ⟨_,_,rfl,rfl⟩) (Tq _)) ?_);show(!cJ (dF (fW WM p.2.1)) (dF (lT 0 1,lB 0 1)))=_;rw[M6 fk]
 ·obtain⟨⟨acc,l⟩,⟨τ,n⟩⟩:=p;obtain⟨h1,h2,h3,h4⟩:=hp;have ht : τ ≠ 0:=by simpa using h
  replace h1:lq n c.length l τ:=h1
  replace h2:acc++gO n fo l τ=res:=h2
  replace h3:acc.length<=7-n:=h3
  replace h4:n<=7:=h4
  obtain⟨n,rfl⟩:∃ m,n=m+1:=⟨n-1,by have:=h1.nz ht;omega⟩
  have kx:=xV iC h1 ht;have iQ:=h1.iQ;have ac0:=h1.len;rw[wG ht]at h2;have aci:nA fo l τ=⟨cQ l (bB fo l) τ,bB fo l,(dN (dq l (bB fo l) (cQ l (bB fo l) τ))).filter fun x=>(bB fo l).contains x⟩:=rfl;have sW:=xS fo l;have fo6:=iC.o6;refine⟨((acc++[nA fo l τ],dq l (bB fo l) (cQ l (bB fo l) τ)),(τ - cQ l (bB fo l) τ,n)),⟨kx.next,by show(acc++[nA fo l τ])++_=_;rw[ID];exact h2,by show(acc++[nA fo l τ]).length<=7-n;rw[qr,EM];omega,by show n<=7;omega⟩,akd n,?_⟩;have ac1:er (.ow (fo.map fun o=>ti ((fP o (dN l)).headD 0)))=dis (bB fo l):=by
   rw[dk];unfold bB;show Dv.lst _=Dv.lst (List.map _ (List.map _ _));rw[gz];rfl
  refine bw.fg (ρ1:=[some (.fz (gP c os)),some (.fz (.lst (fo.map dis))),some (.fz (cn WM (dq l (bB fo l) (cQ l (bB fo l) τ)))),some (tF (fW WM (τ - cQ l (bB fo l) τ))),some (.ow ((acc++[nA fo l τ]).map fun s=>.fz (sQ s))),some (.fz (dis (dN l))),some (.fz (dis (bB fo l))),some (tF (fW WM (cQ l (bB fo l) τ)))]) ?_ ⟨[5,6,7],rfl⟩;refine ax (aP 5 (Ev.s (Ev.as (aG Lb (by show k+3<=k+4;omega) (aj (ae 2 rfl) aw) ⟨l,iQ.len,rfl,rfl⟩) (eZ _))) (fun _=>kC.nd)) ?_;refine ax (aP 6 (Ev.s (Ev.as (fL (own:=["order"]) (fr:=[5]) fo dis (fun o=>ti ((fP o (dN l)).headD 0)) (fun i=>bV) (bR (ae 1 rfl) rfl) (bJ 0 (fun _=>by show List.Nodup (["order", "gone"]:List Str);decide)) (by decide) (by omega) (fun o ho=>⟨_,rfl,by
    obtain⟨x,r,e,_,_⟩:=Mo ac0 (iC.none o ho);exact Ev.to (aG Bi (by show k+1<=k+4;omega) (aj (ae 0 rfl) (aj (ae 1 rfl) aw)) ⟨o,dN l,x,r,iC.len o ho,e,rfl,rfl⟩) (by rw[e];rfl)⟩) (fun dd=>by cases dd<;>rfl)) ac1)) (fun _=>kC.nd)) ?_
  have eS:acc++[nA fo l τ]=acc++[⟨cQ l (bB fo l) τ,bB fo l,(dN (dq l (bB fo l) (cQ l (bB fo l) τ))).filter fun x=>(bB fo l).contains x⟩]:=by rw[aci]
  rw[eS];generalize bB fo l=ay at kx sW;have aiV:tJ l:=iQ;refine ax (aP 7 (Ev.s (aG VS (br _) (aj (ae 2 rfl) (aj (ae 6 rfl) (aj (ae 3 rfl) aw))) ⟨l,ay,τ,iQ,by omega,h1.t0,h1.t1,rfl,rfl⟩)) (fun _=>kC.nd)) ?_;generalize cQ l ay τ=len at kx;have l0:=kx.pos;have l1:len<=WM:=aka kx.le h1.t1;refine ax (aP 2 (Ev.s (Ev.as (d:=cn WM (dq l ay len)) (aG VU (br _) (aj (ae 2 rfl) (aj (ae 6 rfl) (aj (ae 7 rfl) aw))) ⟨l,ay,len,iQ,by omega,by omega,l1,rfl,rfl⟩) (dk _ _))) (fun _=>kC.nd)) ?_;have t0:=h1.t0;have t1:=h1.t1;refine ax (aP 3 (bx.to (t':=tF (fW WM (τ - len))) (Ev.s (aG CY (by show k+3<=k+4;omega) (aj (ae 3 rfl) (aj (ae 7 rfl) aw)) ⟨fW WM τ,fW WM len,sP fk mO t0 (by omega),sP fk mO (by omega) (by omega),rfl,rfl⟩)) (by rw[M1 fk])) (fun _=>kC.nd)) ?_;have Fj:(dq l ay len).length<=6:=by rw[CW];exact iQ.len
  generalize dq l ay len=bl at Fj;have aiW:(dN bl).length<=6:=by
   unfold dN;exact zd (IS _ _) (by rw[jz];exact Fj)
  rw[Cs];refine aF (rm 4 rfl (Ev.s (xG (dd:=[dF (fW WM len),dis ay,dis ((dN bl).filter fun x=>ay.contains x)]) (aj (ae 7 rfl) (aj (ae 6 rfl) (aj (Ev.as (d:=dis ((dN bl).filter fun x=>ay.contains x)) (kJ (own:=["thing"]) (fr:=[6]) (dN bl) di (fun x=>ay.contains x) ti (fun i=>bV) (bR (aG Lb (by show k+3<=k+4;omega) (aj (ae 2 rfl) aw) ⟨bl,Fj,rfl,rfl⟩) (eZ _)) (bJ 0 (fun _=>by show List.Nodup (["thing", "eaten"]:List Str);decide)) (by decide) (by omega) (fun x hx=>⟨_,rfl,by exact g9 (yu (ae 0 rfl) (ae 1 rfl) rfl (by with_unfolding_all rfl)),fun _=>by exact ae 0 rfl⟩) (fun dd=>by cases dd<;>rfl)) (eZ _)) aw))) rfl (by show 3<=sizeLine;decide))) (by rw[aa];omega))
 ·obtain⟨⟨acc,l⟩,⟨τ,n⟩⟩:=p;obtain⟨h1,h2,h3,h4⟩:=hp;have ht : τ=0:=by simpa using h
  replace h2:acc++gO n fo l τ=res:=h2
  rw[ht,wR,FF]at h2;rw[<- h2];exact aF (oG 4 rfl)
def nc (steps:List gJ)(a one:Int):Int:=((steps.filter fun s=>decide (af s.ay a=one)).map gJ.len).sum
def Ep (m:Nat)(steps:List gJ)(a:Int):LI:=(ah (m+1)).map (nc steps a)
theorem Z5 {n:Nat}{o:LI}(nd:o.Nodup)(h:∀ x ∈ o,0<=x/\x<n):(cP n o).Nodup:=by
 unfold cP lU;rw[ID,r8];refine⟨nd,?_,?_⟩
 ·rw[List.singleton_append,BB];refine⟨fun hx=>?_,?_⟩
  ·obtain⟨k,hk,e⟩:=i4.mp hx;have:=VT.mp (AM.mp hk).1;omega
  ·rw[akt,ai2];exact((List.nodup_range (n:=n)).filter _).imp fun h z=>h (by omega)
 ·intro x hx y hy e;subst e;rcases wb.mp hy with hy | hy
  ·have:=rf.mp hy;have:=h x hx;omega
  ·obtain⟨k,hk,e⟩:=i4.mp hy;have h2:=(AM.mp hk).2;rw[e]at h2;simp at h2;exact h2 hx
theorem Oa {c:LI}{os:LL}(T:gq c os):mw c.length (os.map (cP c.length)):=by
 refine⟨by rw[aa];exact T.o6,fun o ho=>?_,fun o ho x hx=>?_,fun o ho=>?_,fun o ho=>?_⟩
 ·obtain⟨p,hp,rfl⟩:=i4.mp ho;unfold cP;simp
 ·obtain⟨p,hp,rfl⟩:=i4.mp ho;have:=Z2 (T.cF p hp) x hx;omega
 ·obtain⟨p,hp,rfl⟩:=i4.mp ho;exact Z5 (T.nd p hp) (T.cF p hp)
 ·obtain⟨p,hp,rfl⟩:=i4.mp ho;have:=Y0 (n:=c.length) p;have:=T.c6;have:=rn (T.nd p hp) (T.cF p hp);omega
structure Qt (n:Nat) (s:gJ):Prop where
 len:s.ay.length=n
 l0 : 0<=s.len
 l1:s.len<=WM
abbrev rh:Stmt:=top 52
theorem WQ:aZ ["steps", "asker", "one"] ["steps", "asker", "one"] (aq rh):=bt
def M8 (dd:List Dv)(t:Tr):Prop:=∃ (n:Nat) (st:List gJ) (a one:Int),(∀ s ∈ st,Qt n s)/\st.length<=120/\0<=a/\a<n/\dd=[DL st,di a,di one]/\t=tF (fW WM (nc st a one))
theorem WR {f f1:Addr}{fd aI:FuncData}{k:Nat}(F:aV K "eaten_by" "eaten_by" rh f fd)(T:Txt mg)(oy:Kn P w K mg base ak (k+4) "sum_of" f1 aI ["some"] (spT K uJ)):aJ P w K mg base ak (k+5) f fd ["steps", "asker", "one"] (spT K M8):=by
 refine bD F.d WQ (fun dd t h=>by obtain⟨_,_,_,_,_,_,_,_,rfl,_⟩:=h;rfl) fun dd t h=>?_
 obtain⟨n,st,a,one,kx,sl,a0,a1,rfl,rfl⟩:=h;refine⟨_,.inl rfl,?_⟩;have big : 1000<sizeLine:=by decide
 have eF:er (.ow ((st.filter fun s=>decide (af s.ay a=one)).map fun s=>tF (fW WM s.len)))=cn WM ((st.filter fun s=>decide (af s.ay a=one)).map gJ.len):=by
  rw[dk];show Dv.lst _=Dv.lst (List.map _ (List.map _ _));rw[gz];rfl
 refine aF (bL (Ev.s (aG oy (br _) (aj (Ev.as (kJ (own:=["length", "eaten", "ended"]) (fr:=[2,1]) st sQ (fun s=>decide (af s.ay a=one)) (fun s=>tF (fW WM s.len)) (fun i=>bV) (bR (ae 0 rfl) rfl) (aaN 0 1 2 (fun _=>by show List.Nodup (["length", "eaten", "ended", "one", "asker"]:List Str);decide)) (by decide) (by omega) (fun s hs=>⟨_,rfl,by
   exact g9 (jD (dU (ae 1 rfl) (ae 4 rfl) rfl (jB di a0 (by rw[(kx s hs).len];exact a1))) (ae 3 rfl)),fun _=>by exact ae 0 rfl⟩) (fun dd=>by rcases dd with _ | ⟨a,_ | ⟨b,_ | ⟨c,dd⟩⟩⟩<;>rfl)) eF) aw) ⟨WM,(st.filter fun s=>decide (af s.ay a=one)).map gJ.len,fk,mj mO,⟨?_,fun x hx=>?_⟩,rfl,rfl⟩)))
 ·rw[aa];exact zd (IS _ _) sl
 ·obtain⟨s,hs,rfl⟩:=i4.mp hx;have:=kx s (AM.mp hs).1;have h0:=this.l0;have h1:=this.l1;have:=fk;omega
abbrev sv:Stmt:=top 53
theorem xW:aZ ["table", "steps", "many", "shares"] ["table"] (aq sv):=bt
def rW (m:Nat)(st:List gJ)(n:Nat):Dv:=.lst ((ah n).map fun a=>cn WM (Ep m st a))
def Qu (dd:List Dv)(t:Tr):Prop:=∃ (c:LI) (os:LL),gq c os/\mw c.length (os.map (cP c.length))/\dd=[gP c os]/\t=.fz (.tup [DL (gN c os),rW c.length (gN c os) os.length])
theorem Y1 {c:LI}{os:LL}(tab:gq c os)(iC:mw c.length (os.map (cP c.length))):∀ s ∈ gN c os,Qt os.length s:=fun s hs=>by
 obtain⟨l',hl,e,p,q⟩:=Cm iC 7 _ _ (Cp tab.c6 tab.cnt) s hs;exact⟨by rw[e,xS,aa],ak6 p,q⟩
theorem Z6 {f f1 f2:Addr}{fd aI fd2:FuncData}{k:Nat}(F:aV K "meal" "meal" sv f fd)(T:Txt mg)(Wh:Kn P w K mg base ak (k+5) "meal_steps" f1 aI ["table"] (spT K Pt))(W8:Kn P w K mg base ak (k+5) "eaten_by" f2 fd2 ["steps", "asker", "one"] (spT K M8)):aJ P w K mg base ak (k+6) f fd ["table"] (spT K Qu):=by
 refine bD F.d xW (fun dd t h=>by obtain⟨_,_,_,_,rfl,_⟩:=h;rfl) fun dd t h=>?_
 obtain⟨c,os,tab,iC,rfl,rfl⟩:=h;refine⟨_,.inl rfl,?_⟩;have big : 1000<sizeLine:=by decide
 have c6:=tab.c6;have o6:=tab.o6;have kx:=Y1 tab iC;have ac2:(gN c os).length<=7:=M5 7 _ _ _;have nG:(((os.map dis).length:Nat):Int)=os.length:=by rw[aa]
 have o9:(((c.map di).length:Nat):Int)=c.length:=by rw[aa]
 have vW:jj 0 (((os.map dis).length:Nat):Int).toNat=(ah os.length).map di:=by
  rw[nG,zw];unfold ah;rw[gz];rfl
 have ac3:jj 0 ((((c.map di).length:Nat):Int)+1).toNat=(ah (c.length+1)).map di:=by
  rw[o9,show((c.length:Int)+1).toNat=c.length+1 by omega];unfold ah;rw[gz];rfl
 have e1:er (.ow ((gN c os).map fun s=>.fz (sQ s)))=DL (gN c os):=dk _ _;refine ax (aP 1 (Ev.s (Ev.as (aG Wh (br _) (aj (ae 0 rfl) aw) ⟨c,os,tab,iC,rfl,rfl⟩) e1)) (fun _=>xW.nd)) ?_;generalize gN c os=st at kx ac2;refine ax (aP 2 (Ev.s (bS T.bQ (aY (d:=dis c) (ae 0 rfl) av rfl rfl) (.inl rfl))) (fun _=>xW.nd)) ?_;have e2:er (.ow ((ah os.length).map fun a=>.ow ((ah (c.length+1)).map fun x=>tF (fW WM (nc st a x)))))=rW c.length st os.length:=by
  rw[dk];unfold rW;congr 1;refine ma fun a _=>?_
  rw[dk];unfold Ep;show _=Dv.lst _;rw[gz];rfl
 refine ax (i5 3 (j6 (dD.as (j7 (own:=["asker"]) (fr:=[1,2]) (ah os.length) di (fun a=>.ow ((ah (c.length+1)).map fun x=>tF (fW WM (nc st a x)))) (bp.to (iE T.gL (bS T.bQ (aY (d:=.lst (os.map dis)) (ae 0 rfl) av rfl rfl) (.inl rfl)) (by rw[nG];omega)) vW) (bJ 0 (fun _=>by show List.Nodup (["asker", "steps", "many"]:List Str);decide)) (by decide) (by rw[jz];omega) (fun a ha=>⟨_,rfl,by
   obtain⟨a0,a1⟩:=aW.mp ha;exact fL (own:=["one"]) (fr:=[1,0]) (ah (c.length+1)) di (fun x=>tF (fW WM (nc st a x))) (fun i=>sL ["asker", "steps", "many"] ⟨rfl,by decide +kernel,by decide +kernel,by decide +kernel,by decide +kernel⟩ fun y hy=>jQ _ _ y hy) (bp.to (iE T.gL (eI (ae 2 rfl) av) (by rw[o9];omega)) ac3) (bJ 0 (fun _=>by show List.Nodup (["one", "steps", "asker"]:List Str);decide)) (by decide) (by rw[jz];omega) (fun x hx=>⟨_,rfl,by
    exact aG W8 (br _) (aj (ae 1 rfl) (aj (ae 2 rfl) (aj (ae 0 rfl) aw))) ⟨os.length,st,a,x,kx,by omega,a0,a1,rfl,rfl⟩⟩) (fun dd=>by cases dd<;>rfl)⟩) (fun dd=>by cases dd<;>rfl)) e2)) (fun i=>yR ⟨rfl,rfl,by decide +kernel,by decide +kernel,by decide +kernel,by decide +kernel⟩) (fun _=>xW.nd)) ?_
 exact aF (bL (Ev.s (xG (aj (ae 1 rfl) (aj (ae 3 rfl) aw)) rfl (by show 2<=sizeLine;decide))))
end
section
variable {P:Program}{w:World}{K:Frag}{mg:Str->Option Value}{base:Heap}
def vI (x:Int):V:=if x<0 then .aH else .int x
abbrev Rs:=Bool×LI×LI
def fc (d:LI)(x:Int):LI:=(ah d.length).filter fun o=>decide (af d o=x)
def dg (rec:LI->LI->Int->Rs)(a x:Int):LI->LI->LI->Rs
 |[],d,s=>(false,d,s)
 |o::os,d,s=>if s.contains o then dg rec a x os d s else
  match rec d s o with
  |(true,d',s')=>(true,d'.set a.toNat x,s')
  |(false,d',s')=>dg rec a x os d' s'
def fS (rec:LI->LI->Int->Rs)(c:LI)(a:Int):LI->LI->LI->Rs
 |[],d,s=>(false,d,s)
 |x::xs,d,s=>if(d.count x:Int)<af c x then (true,d.set a.toNat x,s)else
  match dg rec a x (fc d x) d s with
  |(true,d',s')=>(true,d',s')
  |(false,d',s')=>fS rec c a xs d' s'
def p7 (rec:LI->LI->Int->Rs)(c:LI)(a:Int)(xs:LI)(r:Rs):Rs:=if r.1=true then r else fS rec c a xs r.2.1 r.2.2
theorem rJ (rec:LI->LI->Int->Rs)(c:LI)(a x:Int)(xs d s:LI):fS rec c a (x::xs) d s=if(d.count x:Int)<af c x then (true,d.set a.toNat x,s)else p7 rec c a xs (dg rec a x (fc d x) d s):=by
 rw[fS];split
 ·rfl
 ·unfold p7;rcases dg rec a x (fc d x) d s with⟨b,d',s'⟩
  cases b<;>rfl
def tK (rec:LI->LI->Int->Rs)(a x:Int)(os:LI)(r:Rs):Rs:=if r.1=true then (true,r.2.1.set a.toNat x,r.2.2)else dg rec a x os r.2.1 r.2.2
theorem ud (rec:LI->LI->Int->Rs)(a x o:Int)(os d s:LI):dg rec a x (o::os) d s=if s.contains o=true then dg rec a x os d s else tK rec a x os (rec d s o):=by
 rw[dg];split
 ·rfl
 ·unfold tK;rcases rec d s o with⟨b,d',s'⟩
  cases b<;>rfl
def cw (c:LI)(may:LL):Nat->LI->LI->Int->Rs
 |0,d,s,_=>(false,d,s)
 |f+1,d,s,a=>fS (cw c may f) c a (may.getD a.toNat []) d (s++[a])
structure fT (c:LI) (may:LL):Prop where
 n6:c.length<=6
 A6:may.length<=6
 row:∀ r ∈ may,r.length<=7/\∀ x ∈ r,0<=x/\x<=c.length
structure cV (c:LI) (may:LL) (d s:LI):Prop where
 dl:d.length=may.length
 dr:∀ x ∈ d,-1<=x/\x<=c.length
 sr:∀ x ∈ s,0<=x/\x<may.length
 sn:s.Nodup
 no:∀ a:Int,0<=a->a<may.length->(c.length:Int) ∈ may.getD a.toNat []->af d a=c.length
theorem kI {l:LI}{a b:Int}{v:Int}(a0 : 0<=a)(b0 : 0<=b)(b1:b<l.length):af (l.set a.toNat v) b=if a=b then v else af l b:=by
 unfold af;rw[ba,Lu];by_cases e:a=b
 ·subst e;rw[lp rfl,lp rfl,lp (by omega)];rfl
 ·rw[mf (by omega),mf e,ba]
theorem Cq {d:LI}{x o:Int}:o ∈ fc d x ↔ (0<=o/\o<d.length)/\af d o=x:=by
 unfold fc;rw[AM,aW,Na]
theorem cV.put {c:LI}{may:LL}{d s:LI}(h:cV c may d s){a x:Int}(a0 : 0<=a)(nn:(c.length:Int) ∉ may.getD a.toNat [])(x0 : 0<=x)(x1:x<=c.length):cV c may (d.set a.toNat x) s:=by
 refine⟨by rw[ET];exact h.dl,fun y hy=>?_,h.sr,h.sn,fun b b0 b1 hb=>?_⟩
 ·rcases ajw hy with z | rfl
  ·exact h.dr y z
  ·omega
 ·rw[kI a0 b0 (by rw[h.dl];exact b1),mf (show ¬ a=b from fun e=>nn (e ▸ hb))];exact h.no b b0 b1 hb
structure Kp (c:LI) (may:LL) (s:LI) (r:Rs):Prop where
 ok:cV c may r.2.1 r.2.2
 sub:∀ x ∈ s,x ∈ r.2.2
 len:s.length<=r.2.2.length
theorem DM {c:LI}{may:LL}{rec:LI->LI->Int->Rs}{a x:Int}(a0 : 0<=a)(nn:(c.length:Int) ∉ may.getD a.toNat [])(x0 : 0<=x)(x1:x<c.length){A0:Nat}(bf:∀ (d s:LI) (o:Int),cV c may d s->0<=o->o<may.length->o ∉ s->(c.length:Int) ∉ may.getD o.toNat []->A0<=s.length->Kp c may s (rec d s o)) :
  ∀ (os d s:LI),cV c may d s->A0<=s.length->(∀ o ∈ os,0<=o/\o<may.length/\(c.length:Int) ∉ may.getD o.toNat [])->Kp c may s (dg rec a x os d s)
 |[],d,s,h,_,_=>⟨h,fun _ z=>z,br _⟩
 |o::os,d,s,h,hA,ho=>by
  have ip:=ho o (.head _);unfold dg;by_cases hs:s.contains o=true
  ·rw[lp hs];exact DM a0 nn x0 x1 bf os d s h hA fun o' h'=>ho o' (.tail _ h')
  ·rw[mf hs];have hn:o ∉ s:=fun z=>hs (by simpa using z)
   have hk:=bf d s o h ip.1 ip.2.1 hn ip.2.2 hA;rcases hr:rec d s o with⟨b,d',s'⟩
   rw[hr]at hk;cases b with
   |true=>exact⟨hk.ok.put a0 nn x0 (by omega),hk.sub,hk.len⟩
   |false =>
    have ih:=DM a0 nn x0 x1 bf os d' s' hk.ok (zd hA hk.len) fun o' h'=>ho o' (.tail _ h')
    exact⟨ih.ok,fun y hy=>ih.sub y (hk.sub y hy),zd hk.len ih.len⟩
theorem Ob {c:LI}{may:LL}{d s:LI}(h:cV c may d s){x:Int}(x1:x<c.length):∀ o ∈ fc d x,0<=o/\o<may.length/\(c.length:Int) ∉ may.getD o.toNat []:=fun o ho=>by
 obtain⟨⟨o0,o1⟩,e⟩:=Cq.mp ho;have Tw:o<may.length:=by rw[<- h.dl];exact o1
 exact⟨o0,Tw,fun z=>by have:=h.no o o0 Tw z;omega⟩
theorem Pu {c:LI}{may:LL}{rec:LI->LI->Int->Rs}{a:Int}(a0 : 0<=a)(nn:(c.length:Int) ∉ may.getD a.toNat []){A0:Nat}(bf:∀ (d s:LI) (o:Int),cV c may d s->0<=o->o<may.length->o ∉ s->(c.length:Int) ∉ may.getD o.toNat []->A0<=s.length->Kp c may s (rec d s o)) :
  ∀ (xs d s:LI),cV c may d s->A0<=s.length->(∀ x ∈ xs,0<=x/\x<c.length)->Kp c may s (fS rec c a xs d s)
 |[],d,s,h,_,_=>⟨h,fun _ z=>z,br _⟩
 |x::xs,d,s,h,hA,hx=>by
  have iN:=hx x (.head _);unfold fS;by_cases hc:(d.count x:Int)<af c x
  ·rw[lp hc];exact⟨h.put a0 nn iN.1 (by omega),fun _ z=>z,br _⟩
  ·rw[mf hc];have hk:=DM a0 nn iN.1 iN.2 bf (fc d x) d s h hA (Ob h iN.2);rcases hr:dg rec a x (fc d x) d s with⟨b,d',s'⟩
   rw[hr]at hk;cases b with
   |true=>exact hk
   |false =>
    have ih:=Pu a0 nn bf xs d' s' hk.ok (zd hA hk.len) fun y hy=>hx y (.tail _ hy)
    exact⟨ih.ok,fun y hy=>ih.sub y (hk.sub y hy),zd hk.len ih.len⟩
theorem yj {c:LI}{may:LL}(io:fT c may){a:Int}(a0 : 0<=a)(a1:a<may.length)(nn:(c.length:Int) ∉ may.getD a.toNat []):(may.getD a.toNat []).length<=7/\∀ x ∈ may.getD a.toNat [],0<=x/\x<c.length:=by
 have hm:may.getD a.toNat [] ∈ may:=by
  rw[ba,ab (show a.toNat<may.length by omega)];exact MW _
 refine⟨(io.row _ hm).1,fun x hx=>?_⟩;have h:=(io.row _ hm).2 x hx;have:x ≠ c.length:=fun e=>nn (e ▸ hx)
 omega
theorem cV.see {c:LI}{may:LL}{d s:LI}(h:cV c may d s){a:Int}(a0 : 0<=a)(a1:a<may.length)(na:a ∉ s):cV c may d (s++[a]) :=
 ⟨h.dl,h.dr,fun x hx=>by
  rcases wb.mp hx with z | z
  ·exact h.sr x z
  ·rw[rf.mp z];exact⟨a0,a1⟩,r8.mpr ⟨h.sn,by simp,fun x hx y hy e=>by
   rw[rf.mp hy]at e;exact na (e ▸ hx)⟩,h.no⟩
theorem yk {c:LI}{may:LL}(io:fT c may):∀ (f:Nat) (d s:LI) (a:Int),cV c may d s->0<=a->a<may.length->a ∉ s->(c.length:Int) ∉ may.getD a.toNat []->Kp c may s (cw c may f d s a)
 |0,d,s,a,h,_,_,_,_=>⟨h,fun _ z=>z,br _⟩
 |f+1,d,s,a,h,a0,a1,na,nn=>by
  have hk:=Pu (A0:=0) a0 nn (fun d s o h o0 o1 no nn' _=>yk io f d s o h o0 o1 no nn') (may.getD a.toNat []) d (s++[a]) (h.see a0 a1 na) (DO _) (yj io a0 a1 nn).2;exact⟨hk.ok,fun x hx=>hk.sub x (nv _ hx),zd (by rw[qr];omega) hk.len⟩
theorem Pw (a:Int):∀ {s:LI},s.Nodup->s.length<=(s.filter fun x=>decide (x ≠ a)).length+1
 |[],_=>DO _
 |x::s,nd=>by
  have n2:=BB.mp nd;have ih:=Pw a n2.2;rw[Lm];by_cases e:x=a
  ·rw[mf (by simpa using e)];have:s.filter (fun y=>decide (y ≠ a))=s:=ai8.mpr fun y hy=>u4 fun z=>n2.1 (by rw[e,<- z];exact hy)
   rw[this];exact br _
  ·rw[lp (by simpa using e),AN,AN];omega
theorem lO:∀ {A:Nat} {s:LI},(∀ x ∈ s,0<=x/\x<(A:Int))->s.Nodup->s.length<=A
 |0,[],_,_=>br _
 |0,x::s,h,_=>by have:=h x (.head _);omega
 |A+1,s,h,nd=>by
  have h1:=lO (A:=A) (s:=s.filter fun x=>decide (x ≠ (A:Int))) (fun x hx=>by
   obtain⟨pU,hx2⟩:=AM.mp hx;have:=h x pU;have zO:=Cn hx2;omega) (nd.filter _)
  have:=Pw (A:Int) nd;omega
theorem Qv {a b:Prop}(h:a):if true=true then a else b:=by rw[lp rfl];exact h
theorem kK {x:Int}(h : 0<=x):vI x=.int x:=by unfold vI;rw[mf (by omega)]
theorem sx {x:Int}(h:x<0):vI x=.aH:=by unfold vI;rw[lp h]
theorem abx {x y:Int}(hy : 0<=y):dw (vI x) (.int y)=decide (x=y):=by
 by_cases h:x<0
 ·rw[sx h,tw (by omega)];rfl
 ·rw[kK (by omega)];show(x==y)=_;rw[Bool.beq_eq_decide_eq]
theorem Z7 (x:Int):fE (vI x)=true:=by
 by_cases h:x<0
 ·rw[sx h];rfl
 ·rw[kK (by omega)];rfl
theorem Cr {x:Int}(hx : 0<=x):∀ d:LI,(d.map vI).countP (fun z=>dw z (.int x))=d.count x
 |[] => rfl
 |y::d=>by
  rw[i8,Lo,Cr hx d,OK,abx hx];by_cases h:y=x
  ·rw[lp (u4 h),lp (by simpa using h)]
  ·rw[mf (by rw[tw h];decide),mf (by simpa using h)]
theorem yl {K:Frag}{G:Hp}:∀ d:LI,bC K G ((d.map vI).map .fl) (d.map vI)
 |[] => rfl
 |x::d=>⟨_,_,rfl,⟨rfl,Z7 x⟩,yl d⟩
theorem DN (s:LI)(o:Int):(eU (sK s) (.inl o)).isSome=s.contains o:=by
 rw[<- xf];unfold sK;rw[ak4]
 induction s with
 |nil=>rfl
 |cons x s ih =>
  rw[Pf,ih,akx];congr 1;show decide ((Sum.inl x:Key)=Sum.inl o)=_;rw[Oz];exact Bool.beq_comm
theorem Px {s:LI}{a:Int}(h:a ∉ s):putK (sK s) (.inl a) (.bl true)=sK (s++[a]):=by
 have hn:eU (sK s) (.inl a)=none:=by
  have:=DN s a;rw[show s.contains a=false by simpa using h]at this;cases q:eU (sK s) (.inl a)with
  |none=>rfl
  |some v=>rw[q]at this;cases this
 rw[Yu _ hn];unfold sK;rw[Cs];rfl
theorem Z8 (x y:Int):yM (vI x) (.int y)=true:=by
 by_cases h:x<0
 ·rw[sx h];rfl
 ·rw[kK (by omega)];rfl
theorem aby {x y:Int}(hy : 0<=y):decide (vI x=.int y)=decide (x=y):=by
 refine akh.mpr ⟨fun h=>?_,fun h=>by rw[h,kK hy]⟩;by_cases hx:x<0
 ·rw[sx hx]at h;cases h
 ·rw[kK (by omega)]at h
  injection h
theorem Z9 (d:LI):hZ ((d.map vI).map .fl)=(ah d.length).map fun o=>Dv.tup [di o,.fl (vI (af d o))]:=by
 unfold hZ;refine IF fun n=>?_
 rw[RI,aa,aa,ee,ee,ee];by_cases hn:n<d.length
 ·have e1:(ah d.length)[n]?=some (0+(n:Int)):=by
   unfold ah;rw[ee,CS hn];rfl
  rw[e1,CS hn,ab hn];show some (Dv.tup [di (n:Int),.fl (vI d[n])])=some (Dv.tup [di (0+(n:Int)),.fl (vI (d.getD (0+(n:Int)).toNat 0))]);rw[Zp,zw,ba,ab hn];rfl
 ·rw[nt (l:=List.range d.length) (by rw[Cf];omega),nt (l:=ah d.length) (by rw[bM];omega)];rfl
structure GS (ld ls:Addr) (H:Hp) (d s:LI):Prop where
 d:H ld=some (.lst (d.map vI))
 s:H ls=some (.dK (sK s))
theorem GS.mono {ld ls:Addr}{H H1:Hp}{d s:LI}(g:GS ld ls H d s)(e:au H H1):GS ld ls H1 d s:=⟨e _ _ g.d,e _ _ g.s⟩
theorem GS.put {ld ls:Addr}{H:Hp}{d s:LI}(g:GS ld ls H d s)(ne:ld ≠ ls){a x:Int}(x0 : 0<=x):GS ld ls (upd H ld (.lst ((d.map vI).set a.toNat (.int x)))) (d.set a.toNat x) s:=by
 refine⟨?_,by rw[aQ (Ne.symm ne)];exact g.s⟩;rw[bO,aj5,kK x0]
theorem xX {f:List Addr}{G H H1:Hp}(s:au G H)(n:∀ a ∈ f,G a=none)(m:Md f H H1):au G H1:=fun b o hb=>m b o (fun z=>by rw[n b z]at hb;cases hb) (s b o hb)
abbrev kD:Stmt:=top 1
theorem wu:aZ ["counts", "may", "deal", "asker", "seen", "thing", "other"] ["counts", "may", "deal", "asker", "seen"] (aq kD):=bt
def DP (K:Frag)(f:Nat):Sp:=fun vs H Q _=>∃ (c:LI) (may:LL) (vc vm:V) (ld ls:Addr) (G:Hp) (d s:LI) (a:Int),vs=[vc,vm,.ref ld,.int a,.ref ls]/\au G H/\Hv K G (dis c) vc/\Hv K G (.lst (may.map dis)) vm/\(∀ b ∈ [ld,ls],G b=none)/\ld ≠ ls/\GS ld ls H d s/\fT c may/\cV c may d s/\0<=a/\a<may.length/\a ∉ s/\(c.length:Int) ∉ may.getD a.toNat []/\may.length<=f+s.length /\
 ∀ H',Md [ld,ls] H H'->GS ld ls H' (cw c may f d s a).2.1 (cw c may f d s a).2.2->Q (.bl (cw c may f d s a).1) H'
theorem Lc {f:Addr}{fd:FuncData}{k:Nat}(F:aV K "give_thing" "give_thing" kD f fd)(T:Txt mg)(v5:∀ sp j,aJ P w K mg base ak j f fd ["counts", "may", "deal", "asker", "seen"] sp->Kn P w K mg base ak j "give_thing" f fd ["counts", "may", "deal", "asker", "seen"] sp):∀ n,aJ P w K mg base ak (k+n+1) f fd ["counts", "may", "deal", "asker", "seen"] (DP K n)
 |0=>by
  refine F.ok wu (fun vs H Q E h=>by obtain⟨_,_,_,_,_,_,_,_,_,_,rfl,_⟩:=h;rfl) fun bg A outer s H vs Q E hr h=>?_
  obtain⟨c,may,vc,vm,ld,ls,G,d,sn,a,rfl,fm,hc,lz,gn,ne,gs,io,ok,a0,a1,na,nn,fu,fin⟩:=h;have:=lO (fun x hx=>(ok.see a0 a1 na).sr x hx) (ok.see a0 a1 na).sn;rw[qr,EM]at this;omega
 |n+1=>by
  have ih:=Lc (k:=k) F T v5 n;refine F.ok wu (fun vs H Q E h=>by obtain⟨_,_,_,_,_,_,_,_,_,_,rfl,_⟩:=h;rfl) fun bg A outer s H vs Q E hr h=>?_
  obtain⟨c,may,vc,vm,ld,ls,G,d,sn,a,rfl,fm,hc,lz,gn,ne,gs,io,ok,a0,a1,na,nn,fu,fin⟩:=h;have big : 1000<sizeLine:=by decide
  have hu:((jg ak P w K mg base ["counts", "may", "deal", "asker", "seen", "thing", "other"] "give_thing" (aq kD) f bg A outer s H E).mE).A.units+1<cLine:=EU (NH (show 1<=64 by decide) _) hr.units;refine⟨_,eY (CN hu (pv 4) (pv 3) nk rfl) (eY (m7 aiZ rfl (rM (oR uh (pv 1) (pv 3) (fun _ _=>rfl))) (gK (i:=5) wu.nd rfl (by first | exact Or.inl rfl | exact Or.inr rfl))
   (eY (nq (uO (F:=cC P w K mg base ["counts", "may", "deal", "asker", "seen", "thing", "other"] "give_thing" (aq kD) f (k+n+1)) ⟨bg,A,outer,s,H,E,hr⟩) (eY (oJ (pv 5) (rZ (pv 2) (pv 3) set_list)) (fB (jT nk))) oA)
   (fB (m7 aiZ rfl (rM (oS (F:=cC P w K mg base ["counts", "may", "deal", "asker", "seen", "thing", "other"] "give_thing" (aq kD) f (k+n+1)) ⟨bg,A,outer,s,H,E,hr⟩)) (gK (i:=6) wu.nd rfl (by first | exact Or.inl rfl | exact Or.inr rfl))
    (fB (nq (PW.pt (uD (Dg (Mb hu (pv 6) (pv 4)) rfl) (xx (uC (sI (v5 _ _ ih) hr (by rfl) (aX (pv 0) (aX (pv 1) (aX (pv 2) (aX (pv 6) (aX (pv 4) cu)))))))))) (eY (oJ (pv 5) (rZ (pv 2) (pv 3) set_list)) (fB (jT nk))) oA)))))) (fB (jT nk))),?_⟩
  show je _ _ _ [some vc,some vm,some (.ref ld),some (.int a),some (.ref ls),none,none] H;have p8:=ok.see a0 a1 na;have sl:=lO p8.sr p8.sn;rw[qr,EM]at sl;have A6:=io.A6;refine⟨_,rfl,_,rfl,ls,_,rfl,mh.k (k:=.inl a) gs.s (by unfold sK;rw[aa];omega),?_⟩;rw[Px na];have v7:GS ld ls (upd H ls (.dK (sK (sn++[a])))) d (sn++[a]):=⟨by rw[aQ ne];exact gs.d,bO⟩
  have mP:Md [ld,ls] H (upd H ls (.dK (sK (sn++[a])))):=.upd (.tail _ (.head _));generalize upd H ls (.dK (sK (sn++[a])))=H1 at v7 mP;have ri:=yj io a0 a1 nn;obtain⟨lm,xm,rfl,p9,tM⟩:=lz;have iI:(may.map dis)[a.toNat]?=some (dis (may.getD a.toNat [])):=by rw[ee,ba,ab (show a.toNat<may.length by omega)];rfl
  obtain⟨vr,z5,lr,xr,rfl,Tx,Fm⟩:=Dz tM iI;have:=lK Fm;subst this;have gV:bu xm a=some (.ref lr):=by
   have e:a=((a.toNat:Nat):Int):=by omega
   rw[e];exact iV z5
  have er:cw c may (n+1) d sn a=fS (cw c may n) c a (may.getD a.toNat []) d (sn++[a]):=rfl;rw[er]at fin;generalize vh:fS (cw c may n) c a (may.getD a.toNat []) d (sn++[a])=res at fin;generalize may.getD a.toNat []=row at *;have sG:∀ {Hc:Hp},Md [ld,ls] H Hc->au G Hc:=fun m=>xX fm gn m
  dsimp only[je];refine Xz (a:=lr) (xs:=row.map V.int) ⟨_,rfl,_,rfl,lm,_,a,.ref lr,rfl,rfl,(sG mP).seq p9,gV,rfl,rfl⟩ (fun R hR=>⟨_,rfl,_,rfl,lm,_,a,.ref lr,rfl,rfl,(sG mP).seq p9,gV,hR⟩) ((sG mP).seq Tx)
   (fun i σ Hc=>∃ o5 o6 d' s',σ=[some vc,some (.ref lm),some (.ref ld),some (.int a),some (.ref ls),o5,o6]/\Md [ld,ls] H Hc/\GS ld ls Hc d' s'/\cV c may d' s'/\sn.length+1<=s'.length/\fS (cw c may n) c a (row.drop i) d' s'=res)
   ⟨none,none,d,sn++[a],rfl,mP,v7,p8,by rw[qr];exact br _,vh⟩ (fun i σ Hc _ h=>by obtain⟨_,_,_,_,_,m,_⟩:=h;exact(sG m).seq Tx) ?_ ?_
  ·rintro i v σ Hc hv ⟨o5,o6,d',s',rfl,md,g,iR,mC,aR⟩;obtain⟨x,hx,rfl⟩:=dH hv;have lA:=ri.2 x (mT hx);have e9:row.drop i=x::row.drop (i+1):=by
    obtain⟨h1,h2⟩:=ir.mp hx;rw[HT h1,h2]
   rw[e9]at aR;dsimp only[cO,List.set];refine yB (ρ:=[some (.fz (dis c)),none,some (.fz (.lst ((d'.map vI).map .fl))),none,none,some (ti x),none]) (Et.to (jW (Mf (v:=.int x) (ae 2 rfl) rfl (ae 5 rfl)) (dU (d:=di (af c x)) (ae 0 rfl) (ae 5 rfl) rfl (jB di lA.1 lA.2))) (q:=decide ((d'.count x:Int)<af c x)) (by rw[Cr lA.1])) (au.refl Hc) (aK.gG (H:=Hc) (fp:=[]) ⟨_,_,[],[],rfl,rfl,⟨rfl,hc.mono (sG md)⟩,_,_,rfl,_,_,[],[],rfl,rfl,⟨rfl,ld,_,rfl,aL.of g.d,yl d'⟩,_,_,rfl,_,_,rfl,_,_,[],[],rfl,rfl,⟨rfl,rfl,rfl⟩,_,_,rfl,rfl,rfl⟩) fun G2 H2 bb=>?_
   have qc:=md.trans (.same bb.h);have g2:=g.mono bb.h;by_cases aT:(d'.count x:Int)<af c x
   ·rw[lp (u4 aT)];rw[rJ,lp aT]at aR;refine⟨_,rfl,_,rfl,_,rfl,ld,_,a,a.toNat,rfl,rfl,g2.d,?_,?_⟩
    ·rw[aa,iR.dl];unfold dv;rw[lp a0,lp a1]
    ·rw[<- aR]at fin;exact fin _ (qc.trans (.upd (.head _))) (g2.put ne lA.1)
   ·rw[mf (by rw[tw aT];decide)];rw[rJ,mf aT]at aR;have mQ:=Ob iR lA.2;have dl6:d'.length<=6:=by rw[iR.dl];exact A6
    refine Ee (ρ:=[none,none,some (.fz (.lst ((d'.map vI).map .fl))),none,none,some (ti x),none]) (t:=aU (fc d' x)) (Ev.to (kJ (own:=["holder", "one"]) (fr:=[5]) (ah d'.length) (fun o=>.tup [di o,.fl (vI (af d' o))]) (fun o=>decide (af d' o=x)) ti (fun i=>bV) (bp.to (iU T.iD (ae 2 rfl) rfl) (Z9 d')) (eK 0 1 (fun _=>by show List.Nodup (["holder", "one", "thing"]:List Str);decide)) (by decide) (by rw[bM];omega) (fun o ho=>⟨_,rfl,by exact g9 (Et.to (aa5 (ae 1 rfl) (ae 2 rfl) (Z8 _ _)) (aby lA.1)),fun _=>by exact ae 0 rfl⟩) (fun dd=>by rcases dd with _ | ⟨_,_ | ⟨_,_⟩⟩<;>rfl)) rfl) (au.refl H2) (aK.gG (H:=H2) (fp:=[]) ⟨_,_,rfl,_,_,rfl,_,_,[],[],rfl,rfl,⟨rfl,ld,_,rfl,aL.of g2.d,yl d'⟩,_,_,rfl,_,_,rfl,_,_,[],[],rfl,rfl,⟨rfl,rfl,rfl⟩,_,_,rfl,rfl,rfl⟩) fun vo G3 H3 Gw gE o3 w3=>?_
    obtain⟨lo,xo,fo,rfl,FN,oo,rfl⟩:=o3;obtain⟨rfl,_⟩:=NW oo;have z6:=w3.n lo (.head _);have lod:lo ∉ [ld,ls]:=fun z=>by
     rcases gr.mp z with rfl | z
     ·rw[g2.d]at z6;cases z6
     ·rw[rf.mp z,g2.s]at z6;cases z6
    have v8:=qc.trans (.same gE.h);have g3:=g2.mono gE.h;have Fp:Hv K G (.lst (may.map dis)) (.ref lm):=⟨lm,xm,rfl,p9,tM⟩
    refine⟨lo,rfl,⟨_,aL.of FN⟩,B5 (fun j σ Hc=>∃ o6 d1 s1,σ=[some vc,some (.ref lm),some (.ref ld),some (.int a),some (.ref ls),some (.int x),o6]/\Md [ld,ls] H Hc/\Hc lo=some (.lst ((fc d' x).map V.int))/\GS ld ls Hc d1 s1/\cV c may d1 s1/\sn.length+1<=s1.length/\p7 (cw c may n) c a (row.drop (i+1)) (dg (cw c may n) a x ((fc d' x).drop j) d1 s1)=res)
     ⟨o6,d',s',rfl,v8,FN,g3,iR,mC,aR⟩ (fun j σ Hc _ h=>by obtain⟨_,_,_,_,_,hl,_⟩:=h;exact aL.of hl) ?_ ?_⟩
    ·rintro j v σ H4 hv ⟨o6,d1,s1,rfl,v9,GX,g4,vj,tN,lC⟩;obtain⟨o,ho,rfl⟩:=dH hv;have tO:=mQ o (mT ho);have abz:(fc d' x).drop j=o::(fc d' x).drop (j+1):=by
      obtain⟨h1,h2⟩:=ir.mp ho;rw[HT h1,h2]
     rw[abz,ud]at lC;dsimp only[cO,List.set];refine⟨_,rfl,_,rfl,ls,_,rfl,ic.k (k:=.inl o) g4.s,_,rfl,?_⟩;rw[DN];by_cases hs:s1.contains o=true
     ·rw[hs];rw[lp hs]at lC;exact eR (eR ⟨_,d1,s1,rfl,v9,GX,g4,vj,tN,lC⟩)
     ·have GH:s1.contains o=false:=by simpa using hs
      rw[GH];rw[mf hs]at lC;have wa:o ∉ s1:=fun z=>hs (by simpa using z)
      have kp:=yk io n d1 s1 o vj tO.1 tO.2.1 wa tO.2.2;refine Qv ?_;refine⟨_,rfl,_,rfl,_,rfl,_,rfl,_,rfl,?_⟩;dsimp only[dO,ajz,WS];refine⟨c,may,vc,.ref lm,ld,ls,G,d1,s1,o,rfl,sG v9,hc,Fp,gn,ne,g4,io,vj,tO.1,tO.2.1,wa,tO.2.2,by omega,fun H5 md5 g5=>⟨_,rfl,?_⟩⟩;rcases hg:cw c may n d1 s1 o with⟨b,d2,s2⟩
      rw[hg]at g5 kp lC;have vk:=v9.trans md5;cases b with
      |true =>
       refine Qv ?_;refine⟨_,rfl,_,rfl,_,rfl,ld,_,a,a.toNat,rfl,rfl,g5.d,?_,?_⟩
       ·rw[aa,kp.ok.dl];unfold dv;rw[lp a0,lp a1]
       ·have e:res=(true,d2.set a.toNat x,s2):=lC.symm;rw[e]at fin;exact fin _ (vk.trans (.upd (.head _))) (g5.put ne lA.1)
      |false =>
       exact eR ⟨_,d2,s2,rfl,vk,md5 _ _ lod GX,g5,kp.ok,zd tN kp.len,lC⟩
    ·rintro σ H4 ⟨o6,d1,s1,rfl,v9,GX,g4,vj,tN,lC⟩;rw[aa,ajA]at lC;exact⟨_,_,d1,s1,rfl,v9,g4,vj,tN,lC⟩
  ·rintro σ Hc ⟨o5,o6,d',s',rfl,md,g,iR,mC,aR⟩;rw[aa,ajA]at aR;rw[<- aR]at fin;exact fin Hc md g
theorem VV {f:Addr}{fd:FuncData}{k:Nat}(F:aV K "give_thing" "give_thing" kD f fd)(T:Txt mg)(R0:∀ sp j,aJ P w K mg base ak j f fd ["counts", "may", "deal", "asker", "seen"] sp->Kn P w K mg base ak j "give_thing" f fd ["counts", "may", "deal", "asker", "seen"] sp):aJ P w K mg base ak (k+8) f fd ["counts", "may", "deal", "asker", "seen"] (DP K 7):=by
 exact Lc F T R0 7
end
section
variable {P:Program}{w:World}{K:Frag}{mg:Str->Option Value}{base:Heap}
mutual
def ez (rec:LI->LI->Int->Rs)(ai:LI)(x:Int):LL->Int->LI->LI->Rs
 |[],_,d,s=>(false,d,s)
 |r::rs,a,d,s=>if r.contains x && !s.contains (af d a)then (if ai.contains (af d a)then (if(rec d s (af d a)).1=true then (true,(rec d s (af d a)).2.1.set a.toNat x,(rec d s (af d a)).2.2)else ez rec ai x rs (a+1) (rec d s (af d a)).2.1 (rec d s (af d a)).2.2)else (true,d.set a.toNat x,s))else ez rec ai x rs (a+1) d s
end
def outF (may:LL)(ai:LI):Nat->LI->LI->Int->Rs
 |0,d,s,_=>(false,d,s)
 |f+1,d,s,x=>ez (outF may ai f) ai x may 0 d (s++[x])
structure gA (n A:Nat) (d s:LI):Prop where
 dl:d.length=A
 dr:∀ y ∈ d,0<=y/\y<=n
 sr:∀ y ∈ s,0<=y/\y<n
 sn:s.Nodup
structure GY (n A:Nat) (s:LI) (r:Rs):Prop where
 ok:gA n A r.2.1 r.2.2
 sub:∀ x ∈ s,x ∈ r.2.2
 len:s.length<=r.2.2.length
theorem gA.put {n A:Nat}{d s:LI}(h:gA n A d s){a:Nat}{x:Int}(x0 : 0<=x)(x1:x<=n):gA n A (d.set a x) s:=by
 refine⟨by rw[ET];exact h.dl,fun y hy=>?_,h.sr,h.sn⟩;rcases ajw hy with z | rfl
 ·exact h.dr y z
 ·exact⟨x0,x1⟩
theorem gA.see {n A:Nat}{d s:LI}(h:gA n A d s){x:Int}(x0 : 0<=x)(x1:x<n)(nx:x ∉ s):gA n A d (s++[x]) :=
 ⟨h.dl,h.dr,fun y hy=>by
  rcases wb.mp hy with z | z
  ·exact h.sr y z
  ·rw[rf.mp z];exact⟨x0,x1⟩,r8.mpr ⟨h.sn,by simp,fun y hy z hz e=>by
   rw[rf.mp hz]at e;exact nx (e ▸ hy)⟩⟩
theorem CZ {n A:Nat}{ai:LI}{rec:LI->LI->Int->Rs}{x:Int}(x0 : 0<=x)(x1:x<n)(cy:∀ y ∈ ai,0<=y/\y<(n:Int))(bf:∀ (d s:LI) (y:Int),gA n A d s->0<=y->y<n->y ∉ s->GY n A s (rec d s y)):∀ (rs:LL) (a:Int) (d s:LI),gA n A d s->GY n A s (ez rec ai x rs a d s)
 |[],a,d,s,h=>⟨h,fun _ z=>z,br _⟩
 |r::rs,a,d,s,h=>by
  unfold ez;by_cases h1:(r.contains x && !s.contains (af d a))=true
  ·rw[lp h1];by_cases h2:ai.contains (af d a)=true
   ·rw[lp h2];have hy:=cy (af d a) (by simpa using h2);have hn:af d a ∉ s:=fun z=>by
     rw[BS]at h1;have:=h1.2;simp at this;exact this z
    have kp:=bf d s (af d a) h hy.1 hy.2 hn;generalize rec d s (af d a)=q at kp;by_cases h3:q.1=true
    ·rw[lp h3];exact⟨kp.ok.put x0 (by omega),kp.sub,kp.len⟩
    ·rw[mf h3];have ih:=CZ x0 x1 cy bf rs (a+1) q.2.1 q.2.2 kp.ok;exact⟨ih.ok,fun y hy=>ih.sub y (kp.sub y hy),zd kp.len ih.len⟩
   ·rw[mf h2];exact⟨h.put x0 (by omega),fun _ z=>z,br _⟩
  ·rw[mf h1];exact CZ x0 x1 cy bf rs (a+1) d s h
theorem C0 {n A:Nat}{may:LL}{ai:LI}(cy:∀ y ∈ ai,0<=y/\y<(n:Int)):∀ (f:Nat) (d s:LI) (x:Int),gA n A d s->0<=x->x<n->x ∉ s->GY n A s (outF may ai f d s x)
 |0,d,s,x,h,_,_,_=>⟨h,fun _ z=>z,br _⟩
 |f+1,d,s,x,h,x0,x1,nx=>by
  have hk:=CZ x0 x1 cy (fun d s y h y0 y1 ny=>C0 (may:=may) cy f d s y h y0 y1 ny) may 0 d (s++[x]) (h.see x0 x1 nx);exact⟨hk.ok,fun y hy=>hk.sub y (nv _ hy),zd (by rw[qr];omega) hk.len⟩
abbrev kF:Stmt:=top 2
theorem tY:aZ ["may", "must", "deal", "thing", "seen", "asker", "some", "had"] ["may", "must", "deal", "thing", "seen"] (aq kF):=bt
def Er (K:Frag)(f:Nat):Sp:=fun vs H Q _=>∃ (nn:Nat) (may:LL) (ai:LI) (vm vu:V) (ld ls:Addr) (G:Hp) (d s:LI) (x:Int),vs=[vm,vu,.ref ld,.int x,.ref ls]/\au G H/\Hv K G (.lst (may.map dis)) vm/\Hv K G (dis ai) vu/\(∀ b ∈ [ld,ls],G b=none)/\ld ≠ ls/\GS ld ls H d s/\may.length<=6/\nn<=6/\(∀ y ∈ ai,0<=y/\y<(nn:Int))/\gA nn may.length d s/\0<=x/\x<nn/\x ∉ s/\nn<=f+s.length /\
 ∀ H',Md [ld,ls] H H'->GS ld ls H' (outF may ai f d s x).2.1 (outF may ai f d s x).2.2->Q (.bl (outF may ai f d s x).1) H'
theorem Ln {f:Addr}{fd:FuncData}{k:Nat}(F:aV K "deal_out" "deal_out" kF f fd)(T:Txt mg)(v5:∀ sp j,aJ P w K mg base ak j f fd ["may", "must", "deal", "thing", "seen"] sp->Kn P w K mg base ak j "deal_out" f fd ["may", "must", "deal", "thing", "seen"] sp):∀ n,aJ P w K mg base ak (k+n+1) f fd ["may", "must", "deal", "thing", "seen"] (Er K n)
 |0=>by
  refine F.ok tY (fun vs H Q E h=>by obtain⟨_,_,_,_,_,_,_,_,_,_,_,rfl,_⟩:=h;rfl) fun bg A outer s H vs Q E hr h=>?_
  obtain⟨nn,may,ai,vm,vu,ld,ls,G,d,sn,x,rfl,fm,lz,hc,gn,ne,gs,A6,n6,cy,ok,x0,x1,nx,fu,fin⟩:=h;have:=lO (fun y hy=>(ok.see x0 x1 nx).sr y hy) (ok.see x0 x1 nx).sn;rw[qr,EM]at this;omega
 |n+1=>by
  have ih:=Ln (k:=k) F T v5 n;refine F.ok tY (fun vs H Q E h=>by obtain⟨_,_,_,_,_,_,_,_,_,_,_,rfl,_⟩:=h;rfl) fun bg A outer s H vs Q E hr h=>?_
  obtain⟨nn,may,ai,vm,vu,ld,ls,G,d,sn,x,rfl,fm,lz,hc,gn,ne,gs,A6,n6,cy,ok,x0,x1,nx,fu,fin⟩:=h;have big : 1000<sizeLine:=by decide
  have hu:((jg ak P w K mg base ["may", "must", "deal", "thing", "seen", "asker", "some", "had"] "deal_out" (aq kF) f bg A outer s H E).mE).A.units+1<cLine:=EU (NH (show 1<=64 by decide) _) hr.units;refine⟨_,eY (CN hu (pv 4) (pv 3) nk rfl) (eY (m7 aiZ rfl (NN (by rfl) T.iD (aX (pv 0) cu)) (x8 rfl (lJ (gK (i:=5) tY.nd rfl (by first | exact Or.inl rfl | exact Or.inr rfl)) (lJ (gK (i:=6) tY.nd rfl (by first | exact Or.inl rfl | exact Or.inr rfl)) xA)))
   (eY (oK (i:=7) tY.nd rfl (by first | exact Or.inl rfl | exact Or.inr rfl) (oR uh (pv 2) (pv 5) (fun _ _=>rfl)))
   (fB (nq (PW.pt (uD (uO (F:=cC P w K mg base ["may", "must", "deal", "thing", "seen", "asker", "some", "had"] "deal_out" (aq kF) f (k+n+1)) ⟨bg,A,outer,s,H,E,hr⟩) (xx (Dg (Mb hu (pv 7) (pv 4)) rfl))))
    (fB (nq (PW.pt (D3 (uO (F:=cC P w K mg base ["may", "must", "deal", "thing", "seen", "asker", "some", "had"] "deal_out" (aq kF) f (k+n+1)) ⟨bg,A,outer,s,H,E,hr⟩) (OB (uC (sI (v5 _ _ ih) hr (by rfl) (aX (pv 0) (aX (pv 1) (aX (pv 2) (aX (pv 7) (aX (pv 4) cu)))))))))) (eY (oJ (pv 3) (rZ (pv 2) (pv 5) set_list)) (fB (jT nk))) oA)) oA)))) (fB (jT nk))),?_⟩
  show je _ _ _ [some vm,some vu,some (.ref ld),some (.int x),some (.ref ls),none,none,none] H;have p8:=ok.see x0 x1 nx;have sl:=lO p8.sr p8.sn;rw[qr,EM]at sl;refine⟨_,rfl,_,rfl,ls,_,rfl,mh.k (k:=.inl x) gs.s (by unfold sK;rw[aa];omega),?_⟩;rw[Px nx];have v7:GS ld ls (upd H ls (.dK (sK (sn++[x])))) d (sn++[x]):=⟨by rw[aQ ne];exact gs.d,bO⟩
  have mP:Md [ld,ls] H (upd H ls (.dK (sK (sn++[x])))):=.upd (.tail _ (.head _));generalize upd H ls (.dK (sK (sn++[x])))=H1 at v7 mP;obtain⟨lm,xm,rfl,p9,tM⟩:=lz;have Fp:Hv K G (.lst (may.map dis)) (.ref lm):=⟨lm,xm,rfl,p9,tM⟩
  have xml:xm.length=may.length:=by rw[<- tM.length,aa]
  have er:outF may ai (n+1) d sn x=ez (outF may ai n) ai x (may.drop 0) ((0:Nat):Int) d (sn++[x]):=rfl;rw[er]at fin;generalize vh:ez (outF may ai n) ai x (may.drop 0) ((0:Nat):Int) d (sn++[x])=res at fin;have sG:∀ {Hc:Hp},Md [ld,ls] H Hc->au G Hc:=fun m=>xX fm gn m
  have Tz:ld ∈ [ld,ls]:=.head _;have lD:ls ∈ [ld,ls]:=.tail _ (.head _);dsimp only[je];refine⟨_,rfl,lm,xm,rfl,(sG mP).seq p9,?_⟩;refine Yz (fun i σ Hc=>∃ o5 o6 o7 d' s',σ=[some (.ref lm),some vu,some (.ref ld),some (.int x),some (.ref ls),o5,o6,o7]/\Md [ld,ls] H Hc/\GS ld ls Hc d' s'/\gA nn may.length d' s'/\sn.length+1<=s'.length/\ez (outF may ai n) ai x (may.drop i) (i:Nat) d' s'=res)
   ⟨none,none,none,d,sn++[x],rfl,mP,v7,p8,by rw[qr];exact br _,vh⟩ (fun i σ Hc _ h=>by obtain⟨_,_,_,_,_,_,m,_⟩:=h;exact(sG m).seq p9) ?_ ?_
  ·rintro i v σ z7 Tt hv ⟨o5,o6,o7,d',s',rfl,md0,g0,iR,mC,aR⟩ hT;have hi:i<may.length:=by rw[<- xml];exact(ir.mp hv).1
   have iI:(may.map dis)[i]?=some (dis may[i]):=by rw[ee,ab hi];rfl
   obtain⟨vr,z5,Fm⟩:=Dz tM iI;rw[hv]at z5;cases z5;generalize S7:may[i]=row at *;have e9:may.drop i=row::may.drop (i+1):=by rw[HT hi,S7]
   rw[e9]at aR;have nR:Tt ≠ ld/\Tt ≠ ls:=⟨fun z=>(by rw[z,g0.d]at hT;cases hT),fun z=>(by rw[z,g0.s]at hT;cases hT)⟩
   have md:Md [ld,ls] H (upd z7 Tt (.tup [.int (i:Nat),v])):=md0.trans (.new hT);have g:GS ld ls (upd z7 Tt (.tup [.int (i:Nat),v])) d' s':=⟨by rw[aQ (Ne.symm nR.1)];exact g0.d,by rw[aQ (Ne.symm nR.2)];exact g0.s⟩
   have TB:upd z7 Tt (.tup [.int (i:Nat),v]) Tt=some (.tup [.int (i:Nat),v]):=bO;generalize upd z7 Tt (.tup [.int (i:Nat),v])=Hc at md g TB;have i0:(0:Int)<=(i:Nat):=by omega
   have i1:((i:Nat):Int)<d'.length:=by rw[iR.dl];omega
   have hy:=iR.dr _ (iZ i0 i1);have gV:bu (d'.map vI) (i:Nat)=some (.int (af d' (i:Nat))):=by rw[jB vI i0 i1,kK hy.1]
   unfold ez at aR;generalize SN:af d' ((i:Nat):Int)=y at *;refine⟨Tt,_,rfl,cW.of TB,rfl,_,_,rfl,_,_,rfl,rfl,?_⟩;dsimp only[cO,List.set];refine⟨_,rfl,_,rfl,ld,_,_,.int y,rfl,rfl,aL.of g.d,gV,?_⟩;dsimp only[cO,List.set];refine yB (ρ:=[none,none,none,some (ti x),none,none,some (.fz (dis row)),none]) (yu (ae 3 rfl) (ae 6 rfl) rfl (by with_unfolding_all rfl)) (au.refl Hc) (aK.gG (H:=Hc) (fp:=[]) ⟨_,_,rfl,_,_,rfl,_,_,rfl,_,_,[],[],rfl,rfl,⟨rfl,rfl,rfl⟩,_,_,rfl,_,_,rfl,_,_,[],[],rfl,rfl,⟨rfl,Fm.mono (sG md)⟩,_,_,rfl,rfl,rfl⟩) fun G2 H2 bb=>?_
   have qc:=md.trans (.same bb.h);have g2:=g.mono bb.h;have ei:((i+1:Nat):Int)=((i:Nat):Int)+1:=by omega
   rw[<- ei]at aR;have TC:∀ {m:Nat},m=may.length->dv m ((i:Nat):Int)=some i:=fun {m} hm=>by
    unfold dv;rw[lp i0,lp (by omega)];rfl
   by_cases h1:row.contains x=true
   ·rw[h1]at aR ⊢;refine gx ?_;refine⟨_,rfl,_,rfl,ls,_,rfl,ic.k (k:=.inl y) g2.s,_,rfl,?_⟩;rw[DN];by_cases h2:s'.contains y=true
    ·rw[h2]at aR ⊢;exact eR ⟨_,_,_,d',s',rfl,qc,g2,iR,mC,aR⟩
    ·have h2f:s'.contains y=false:=by simpa using h2
     rw[h2f]at aR ⊢;have tP:(if ai.contains y=true then (if(outF may ai n d' s' y).1=true then (true,(outF may ai n d' s' y).2.1.set i x,(outF may ai n d' s' y).2.2)else ez (outF may ai n) ai x (may.drop (i+1)) ((i+1:Nat):Int) (outF may ai n d' s' y).2.1 (outF may ai n d' s' y).2.2)else (true,d'.set i x,s'))=res:=aR;refine gx ?_;refine yB (ρ:=[none,some (.fz (dis ai)),none,none,none,none,none,some (ti y)]) (wX (ae 7 rfl) (ae 1 rfl) rfl (by with_unfolding_all rfl)) (au.refl H2) (aK.gG (H:=H2) (fp:=[]) ⟨_,_,rfl,_,_,[],[],rfl,rfl,⟨rfl,hc.mono (sG qc)⟩,_,_,rfl,_,_,rfl,_,_,rfl,_,_,rfl,_,_,rfl,_,_,[],[],rfl,rfl,⟨rfl,rfl,rfl⟩,rfl,rfl⟩) fun G3 H3 gE=>?_
     have v8:=qc.trans (.same gE.h);have g3:=g2.mono gE.h;by_cases h3:ai.contains y=true
     ·rw[h3];rw[lp h3]at tP;have z8:=cy y (by simpa using h3);have wa:y ∉ s':=fun z=>h2 (by simpa using z)
      have kp:=C0 (may:=may) cy n d' s' y iR z8.1 z8.2 wa;refine eR ?_;refine⟨_,rfl,_,rfl,_,rfl,_,rfl,_,rfl,?_⟩;dsimp only[dO,ajz,WS];refine⟨nn,may,ai,.ref lm,vu,ld,ls,G,d',s',y,rfl,sG v8,Fp,hc,gn,ne,g3,A6,n6,cy,iR,z8.1,z8.2,wa,by omega,fun H5 md5 g5=>⟨_,rfl,?_⟩⟩;rcases hg:outF may ai n d' s' y with⟨b,d2,s2⟩
      rw[hg]at g5 kp tP;have vk:=v8.trans md5;cases b with
      |true =>
       refine gx ?_;refine⟨_,rfl,_,rfl,_,rfl,ld,_,_,i,rfl,rfl,g5.d,TC (by rw[aa];exact kp.ok.dl),?_⟩;have e:res=(true,d2.set i x,s2):=tP.symm;rw[e]at fin;exact fin _ (vk.trans (.upd (.head _))) (g5.put (a:=((i:Nat):Int)) ne x0)
      |false =>
       exact eR ⟨_,_,_,d2,s2,rfl,vk,g5,kp.ok,zd mC kp.len,tP⟩
     ·have h3f:ai.contains y=false:=by simpa using h3
      rw[h3f];rw[mf h3]at tP;refine gx (gx ?_);refine⟨_,rfl,_,rfl,_,rfl,ld,_,_,i,rfl,rfl,g3.d,TC (by rw[aa];exact iR.dl),?_⟩;rw[<- tP]at fin;exact fin _ (v8.trans (.upd (.head _))) (g3.put (a:=((i:Nat):Int)) ne x0)
   ·have h1f:row.contains x=false:=by simpa using h1
    rw[h1f]at aR ⊢;exact eR (eR ⟨_,_,_,d',s',rfl,qc,g2,iR,mC,aR⟩)
  ·rintro σ Hc ⟨o5,o6,o7,d',s',rfl,md,g,iR,mC,aR⟩;rw[xml,ajA]at aR;rw[<- aR]at fin;exact fin Hc md g
theorem WT {f:Addr}{fd:FuncData}{k:Nat}(F:aV K "deal_out" "deal_out" kF f fd)(T:Txt mg)(R0:∀ sp j,aJ P w K mg base ak j f fd ["may", "must", "deal", "thing", "seen"] sp->Kn P w K mg base ak j "deal_out" f fd ["may", "must", "deal", "thing", "seen"] sp):aJ P w K mg base ak (k+8) f fd ["may", "must", "deal", "thing", "seen"] (Er K 7):=by
 exact Ln F T R0 7
end
end bH
namespace bH
open PySem L2 cY
section
variable {P:Program}{w:World}{K:Frag}{mg:Str->Option Value}{base:Heap}
theorem wH {x v:Int}:∀ {l:LI} {a:Nat} {u:Int},l[a]?=some u->((l.set a v).count x:Int)+(if u=x then 1 else 0)=(l.count x:Int)+(if v=x then 1 else 0)
 |[],a,u,h=>by cases a<;>cases h
 |y::l,0,u,h=>by
  cases h
  rw[akB,OK,OK];by_cases h1:y=x
  ·by_cases h2:v=x
   ·rw[lp h1,lp h2,lp (by simpa using h2),lp (by simpa using h1)]
   ·rw[lp h1,mf h2,mf (by simpa using h2),lp (by simpa using h1)];omega
  ·by_cases h2:v=x
   ·rw[mf h1,lp h2,lp (by simpa using h2),mf (by simpa using h1)];omega
   ·rw[mf h1,mf h2,mf (by simpa using h2),mf (by simpa using h1)]
 |y::l,a+1,u,h=>by
  have ih:=wH (x:=x) (v:=v) (l:=l) (a:=a) (u:=u) h;rw[aky,OK,OK];omega
theorem xY {d:LI}{a:Int}(a0 : 0<=a)(a1:a<d.length):d[a.toNat]?=some (af d a):=by
 unfold af;rw[ba,ab (show a.toNat<d.length by omega)];rfl
structure z9 (may:LL) (ai s:LI) (x:Int) (d d':LI):Prop where
 z:∃ z,z ∉ ai/\∀ y,(d'.count y:Int)+(if z=y then 1 else 0)=d.count y+(if x=y then 1 else 0)
 keep:∀ a:Int,0<=a->a<d.length->af d a ∈ s->af d' a=af d a
 kS:∀ a:Int,0<=a->a<d.length->af d' a=af d a\/af d' a ∈ may.getD a.toNat []
 dl:d'.length=d.length
theorem Bu {ai:LI}{rec:LI->LI->Int->Rs}{x:Int}(bf:∀ d s y,(rec d s y).1=false->(rec d s y).2.1=d):∀ (rs:LL) (a:Int) (d s:LI),(ez rec ai x rs a d s).1=false->(ez rec ai x rs a d s).2.1=d
 |[],a,d,s,_=>rfl
 |r::rs,a,d,s,h=>by
  unfold ez at h ⊢;by_cases h1:(r.contains x && !s.contains (af d a))=true
  ·rw[lp h1]at h ⊢;by_cases h2:ai.contains (af d a)=true
   ·rw[lp h2]at h ⊢;by_cases h3:(rec d s (af d a)).1=true
    ·rw[lp h3]at h;cases h
    ·rw[mf h3]at h ⊢;have:=Bu bf rs (a+1) _ _ h;rw[this];exact bf d s _ (by simpa using h3)
   ·rw[mf h2]at h;cases h
  ·rw[mf h1]at h ⊢;exact Bu bf rs (a+1) d s h
theorem Bv {may:LL}{ai:LI}:∀ (f:Nat) (d s:LI) (x:Int),(outF may ai f d s x).1=false->(outF may ai f d s x).2.1=d
 |0,_,_,_,_=>rfl
 |f+1,d,s,x,h=>Bu (fun d s y=>Bv f d s y) may 0 d (s++[x]) h
theorem Ct {ai:LI}{rec:LI->LI->Int->Rs}{x:Int}(bf:∀ d s y,∀ v ∈ s,v ∈ (rec d s y).2.2):∀ (rs:LL) (a:Int) (d s:LI),∀ v ∈ s,v ∈ (ez rec ai x rs a d s).2.2
 |[],a,d,s,v,h=>h
 |r::rs,a,d,s,v,h=>by
  unfold ez;by_cases h1:(r.contains x && !s.contains (af d a))=true
  ·rw[lp h1];by_cases h2:ai.contains (af d a)=true
   ·rw[lp h2];by_cases h3:(rec d s (af d a)).1=true
    ·rw[lp h3];exact bf d s _ v h
    ·rw[mf h3];exact Ct bf rs (a+1) _ _ v (bf d s _ v h)
   ·rw[mf h2];exact h
  ·rw[mf h1];exact Ct bf rs (a+1) d s v h
theorem M9 {may:LL}{ai:LI}:∀ (f:Nat) (d s:LI) (x:Int),∀ v ∈ s,v ∈ (outF may ai f d s x).2.2
 |0,_,_,_,_,h=>h
 |f+1,d,s,x,v,h=>Ct (fun d s y=>M9 f d s y) may 0 d (s++[x]) v (nv _ h)
theorem BR {may:LL}{ai:LI}{rec:LI->LI->Int->Rs}{x:Int}(hf:∀ d s y,(rec d s y).1=false->(rec d s y).2.1=d)(hs:∀ d s y,∀ v ∈ s,v ∈ (rec d s y).2.2)(bf:∀ d s y,d.length=may.length->(rec d s y).1=true->z9 may ai (s++[y]) y d (rec d s y).2.1) :
  ∀ (rs:LL) (a:Nat) (d s:LI),may.drop a=rs->d.length=may.length->x ∈ s->(ez rec ai x rs a d s).1=true->z9 may ai s x d (ez rec ai x rs a d s).2.1
 |[],a,d,s,_,_,_,h=>by cases h
 |r::rs,a,d,s,hm,dl,hx,h=>by
  have ha:a<may.length:=by
   rcases JJ a may.length with z | z
   ·exact z
   ·rw[ajV z]at hm;cases hm
  have ju:may[a]=r/\may.drop (a+1)=rs:=by
   rw[HT ha]at hm
   injection hm with e1 e2
   exact⟨e1,e2⟩
  have iI:may.getD ((a:Nat):Int).toNat []=r:=by rw[zw,ba,ab ha,ju.1];rfl
  have ea:((a+1:Nat):Int)=(a:Int)+1:=by omega
  have a0:(0:Int)<=a:=by omega
  have a1:(a:Int)<d.length:=by rw[dl];omega
  unfold ez at h ⊢;by_cases h1:(r.contains x && !s.contains (af d a))=true
  ·rw[lp h1]at h ⊢;rw[BS]at h1;have mR:x ∈ r:=by simpa using h1.1
   have iz:af d a ∉ s:=by simpa using h1.2
   have fin:∀ d1:LI,d1.length=d.length->af d1 a=af d a->(∀ b:Int,0<=b->b<d.length->af d b ∈ s->af d1 b=af d b)->(∀ b:Int,0<=b->b<d.length->af d1 b=af d b\/af d1 b ∈ may.getD b.toNat [])->(∃ z,z ∉ ai/\∀ y,(d1.count y:Int)+(if z=y then 1 else 0)=d.count y+(if af d a=y then 1 else 0))->z9 may ai s x d (d1.set (a:Int).toNat x):=fun d1 l1 e1 k1 m1 ⟨z,pS,zt⟩=>by
    refine⟨⟨z,pS,fun y=>?_⟩,fun b b0 b1 hb=>?_,fun b b0 b1=>?_,by rw[ET];exact l1⟩
    ·have g:=xY (d:=d1) a0 (by rw[l1];exact a1);rw[e1]at g;have c1:=wH (x:=y) (v:=x) g;have c2:=zt y;omega
    ·rw[kI a0 b0 (by rw[l1];exact b1),mf (fun e=>iz (by rw[e];exact hb))];exact k1 b b0 b1 hb
    ·rw[kI a0 b0 (by rw[l1];exact b1)];by_cases e:(a:Int)=b
     ·rw[lp e]
      right
      rw[<- e,iI];exact mR
     ·rw[mf e];exact m1 b b0 b1
   by_cases h2:ai.contains (af d a)=true
   ·rw[lp h2]at h ⊢;by_cases h3:(rec d s (af d a)).1=true
    ·rw[lp h3];have T:=bf d s _ dl h3;exact fin _ T.dl (T.keep a a0 a1 (ij _ (.head _))) (fun b b0 b1 hb=>T.keep b b0 b1 (nv _ hb)) T.kS T.z
    ·rw[mf h3]at h ⊢;have e:=hf d s _ (by simpa using h3);rw[e]at h ⊢;rw[<- ea]at h ⊢;have T:=BR hf hs bf rs (a+1) d _ ju.2 dl (hs d s _ x hx) h;exact⟨T.z,fun b b0 b1 hb=>T.keep b b0 b1 (hs d s _ _ hb),T.kS,T.dl⟩
   ·rw[mf h2];exact fin d rfl rfl (fun _ _ _ _=>rfl) (fun _ _ _=>.inl rfl) ⟨af d a,by simpa using h2,fun y=>rfl⟩
  ·rw[mf h1]at h ⊢;rw[<- ea]at h ⊢;exact BR hf hs bf rs (a+1) d s ju.2 dl hx h
theorem Mp {may:LL}{ai:LI}:∀ (f:Nat) (d s:LI) (x:Int),d.length=may.length->(outF may ai f d s x).1=true->z9 may ai (s++[x]) x d (outF may ai f d s x).2.1
 |0,_,_,_,_,h=>by cases h
 |f+1,d,s,x,dl,h=>BR (fun d s y=>Bv f d s y) (fun d s y=>M9 f d s y) (fun d s y dl h=>Mp f d s y dl h) may 0 d (s++[x]) rfl dl (ij _ (.head _)) h
theorem t8 {rec:LI->LI->Int->Rs}{a x:Int}(bf:∀ d s o,(rec d s o).1=false->(rec d s o).2.1=d):∀ (os d s:LI),(dg rec a x os d s).1=false->(dg rec a x os d s).2.1=d
 |[],d,s,_=>rfl
 |o::os,d,s,h=>by
  rw[ud]at h ⊢;by_cases hs:s.contains o=true
  ·rw[lp hs]at h ⊢;exact t8 bf os d s h
  ·rw[mf hs]at h ⊢;unfold tK at h ⊢;by_cases hr:(rec d s o).1=true
   ·rw[lp hr]at h;cases h
   ·rw[mf hr]at h ⊢;have e:=bf d s o (by simpa using hr);rw[e]at h ⊢;exact t8 bf os d _ h
theorem Mq {rec:LI->LI->Int->Rs}{c:LI}{a:Int}(bf:∀ d s o,(rec d s o).1=false->(rec d s o).2.1=d):∀ (xs d s:LI),(fS rec c a xs d s).1=false->(fS rec c a xs d s).2.1=d
 |[],d,s,_=>rfl
 |x::xs,d,s,h=>by
  rw[rJ]at h ⊢;by_cases hc:(d.count x:Int)<af c x
  ·rw[lp hc]at h;cases h
  ·rw[mf hc]at h ⊢;unfold p7 at h ⊢;by_cases hr:(dg rec a x (fc d x) d s).1=true
   ·rw[lp hr,hr]at h;cases h
   ·rw[mf hr]at h ⊢;have e:=t8 bf _ d s (by simpa using hr);rw[e]at h ⊢;exact Mq bf xs d _ h
theorem BU {c:LI}{may:LL}:∀ (f:Nat) (d s:LI) (a:Int),(cw c may f d s a).1=false->(cw c may f d s a).2.1=d
 |0,_,_,_,_=>rfl
 |f+1,d,s,a,h=>Mq (fun d s o=>BU f d s o) _ d (s++[a]) h
theorem rX {rec:LI->LI->Int->Rs}{a x:Int}(bf:∀ d s o,∀ v ∈ s,v ∈ (rec d s o).2.2):∀ (os d s:LI),∀ v ∈ s,v ∈ (dg rec a x os d s).2.2
 |[],d,s,v,h=>h
 |o::os,d,s,v,h=>by
  rw[ud];by_cases hs:s.contains o=true
  ·rw[lp hs];exact rX bf os d s v h
  ·rw[mf hs];unfold tK;by_cases hr:(rec d s o).1=true
   ·rw[lp hr];exact bf d s o v h
   ·rw[mf hr];exact rX bf os _ _ v (bf d s o v h)
theorem Oc {rec:LI->LI->Int->Rs}{c:LI}{a:Int}(bf:∀ d s o,∀ v ∈ s,v ∈ (rec d s o).2.2):∀ (xs d s:LI),∀ v ∈ s,v ∈ (fS rec c a xs d s).2.2
 |[],d,s,v,h=>h
 |x::xs,d,s,v,h=>by
  rw[rJ];by_cases hc:(d.count x:Int)<af c x
  ·rw[lp hc];exact h
  ·rw[mf hc];unfold p7;by_cases hr:(dg rec a x (fc d x) d s).1=true
   ·rw[lp hr];exact rX bf _ d s v h
   ·rw[mf hr];exact Oc bf xs _ _ v (rX bf _ d s v h)
theorem Od {c:LI}{may:LL}:∀ (f:Nat) (d s:LI) (a:Int),∀ v ∈ s,v ∈ (cw c may f d s a).2.2
 |0,_,_,_,_,h=>h
 |f+1,d,s,a,v,h=>Oc (fun d s o=>Od f d s o) _ d (s++[a]) v (nv _ h)
def pd (c:LI)(may:LL)(d:LI):Prop:=∀ a:Int,0<=a->a<may.length->(c.length:Int) ∈ may.getD a.toNat []->af d a=c.length
structure wc (c:LI) (may:LL) (s:LI) (a:Int) (d d':LI):Prop where
 z:∃ z:Int,(d.count z:Int)<af c z/\0<=z/\z<c.length/\∀ y,(d'.count y:Int)+(if af d a=y then 1 else 0)=d.count y+(if z=y then 1 else 0)
 keep:∀ b:Int,0<=b->b<d.length->b ∈ s->b ≠ a->af d' b=af d b
 kS:∀ b:Int,0<=b->b<d.length->af d' b=af d b\/af d' b ∈ may.getD b.toNat []
 self:af d' a ∈ may.getD a.toNat []
 dl:d'.length=d.length
theorem Cu {c:LI}{may:LL}{rec:LI->LI->Int->Rs}{a x:Int}(a0 : 0<=a)(a1:a<may.length)(hx:x ∈ may.getD a.toNat [])(hf:∀ d s y,(rec d s y).1=false->(rec d s y).2.1=d)(hs:∀ d s y,∀ v ∈ s,v ∈ (rec d s y).2.2)(bf:∀ (d s:LI) (o:Int),d.length=may.length->pd c may d->0<=o->o<d.length->o ∉ s->(c.length:Int) ∉ may.getD o.toNat []->(rec d s o).1=true->wc c may s o d (rec d s o).2.1) :
  ∀ (os d s:LI),d.length=may.length->pd c may d->a ∈ s->(∀ o ∈ os,(0<=o/\o<d.length/\(c.length:Int) ∉ may.getD o.toNat [])/\af d o=x)->(dg rec a x os d s).1=true->wc c may s a d (dg rec a x os d s).2.1
 |[],d,s,_,_,_,_,h=>by cases h
 |o::os,d,s,dl,no,ha,mQ,h=>by
  rw[ud]at h ⊢;by_cases nZ:s.contains o=true
  ·rw[lp nZ]at h ⊢;exact Cu a0 a1 hx hf hs bf os d s dl no ha (fun o' h'=>mQ o' (.tail _ h')) h
  ·rw[mf nZ]at h ⊢;have we:o ∉ s:=by simpa using nZ
   have ho:=mQ o (.head _);unfold tK at h ⊢;by_cases hr:(rec d s o).1=true
   ·rw[lp hr]at h ⊢;have T:=bf d s o dl no ho.1.1 ho.1.2.1 we ho.1.2.2 hr;obtain⟨z,z1,z2,z3,z4⟩:=T.z;have ad:a<d.length:=by rw[dl];exact a1
    have ao:a ≠ o:=fun e=>we (e ▸ ha)
    have ka:=T.keep a a0 ad ha ao;refine⟨⟨z,z1,z2,z3,fun y=>?_⟩,fun b b0 b1 hb hn=>?_,fun b b0 b1=>?_,?_,by rw[ET];exact T.dl⟩
    ·have g:=xY (d:=(rec d s o).2.1) a0 (by rw[T.dl];exact ad);rw[ka]at g;have c1:=wH (x:=y) (v:=x) g;have c2:=z4 y;rw[ho.2]at c2;show(((rec d s o).2.1.set a.toNat x).count y:Int)+_=_;omega
    ·rw[kI a0 b0 (by rw[T.dl];exact b1),mf (fun e=>hn e.symm)];exact T.keep b b0 b1 hb (fun e=>we (e ▸ hb))
    ·rw[kI a0 b0 (by rw[T.dl];exact b1)];by_cases e:a=b
     ·rw[lp e];exact .inr (e ▸ hx)
     ·rw[mf e];exact T.kS b b0 b1
    ·rw[kI a0 a0 (by rw[T.dl];exact ad),lp rfl];exact hx
   ·rw[mf hr]at h ⊢;have e:=hf d s o (by simpa using hr);rw[e]at h ⊢;have T:=Cu a0 a1 hx hf hs bf os d _ dl no (hs d s o a ha) (fun o' h'=>mQ o' (.tail _ h')) h;exact⟨T.z,fun b b0 b1 hb hn=>T.keep b b0 b1 (hs d s o b hb) hn,T.kS,T.self,T.dl⟩
theorem Nb {c:LI}{may:LL}{d:LI}(dl:d.length=may.length)(no:pd c may d){x:Int}(x1:x<c.length):∀ o ∈ fc d x,(0<=o/\o<d.length/\(c.length:Int) ∉ may.getD o.toNat [])/\af d o=x:=fun o ho=>by
 obtain⟨⟨o0,o1⟩,e⟩:=Cq.mp ho;exact⟨⟨o0,o1,fun z=>by have:=no o o0 (by rw[<- dl];exact o1) z;omega⟩,e⟩
theorem Nc {c:LI}{may:LL}{rec:LI->LI->Int->Rs}{a:Int}(a0 : 0<=a)(a1:a<may.length)(hf:∀ d s y,(rec d s y).1=false->(rec d s y).2.1=d)(hs:∀ d s y,∀ v ∈ s,v ∈ (rec d s y).2.2)(bf:∀ (d s:LI) (o:Int),d.length=may.length->pd c may d->0<=o->o<d.length->o ∉ s->(c.length:Int) ∉ may.getD o.toNat []->(rec d s o).1=true->wc c may s o d (rec d s o).2.1) :
  ∀ (xs d s:LI),d.length=may.length->pd c may d->a ∈ s->(∀ x ∈ xs,(0<=x/\x<c.length)/\x ∈ may.getD a.toNat [])->(fS rec c a xs d s).1=true->wc c may s a d (fS rec c a xs d s).2.1
 |[],d,s,_,_,_,_,h=>by cases h
 |x::xs,d,s,dl,no,ha,n5,h=>by
  have hx:=n5 x (.head _);have ad:a<d.length:=by rw[dl];exact a1
  rw[rJ]at h ⊢;by_cases hc:(d.count x:Int)<af c x
  ·rw[lp hc];refine⟨⟨x,hc,hx.1.1,hx.1.2,fun y=>wH (xY a0 ad)⟩,fun b b0 b1 _ hn=>?_,fun b b0 b1=>?_,?_,ET⟩
   ·rw[kI a0 b0 b1,mf (fun e=>hn e.symm)]
   ·rw[kI a0 b0 b1];by_cases e:a=b
    ·rw[lp e];exact .inr (e ▸ hx.2)
    ·rw[mf e];exact .inl rfl
   ·rw[kI a0 a0 ad,lp rfl];exact hx.2
  ·rw[mf hc]at h ⊢;unfold p7 at h ⊢;by_cases hr:(dg rec a x (fc d x) d s).1=true
   ·rw[lp hr];exact Cu a0 a1 hx.2 hf hs bf _ d s dl no ha (Nb dl no hx.1.2) hr
   ·rw[mf hr]at h ⊢;have e:=t8 hf _ d s (by simpa using hr);rw[e]at h ⊢;have T:=Nc a0 a1 hf hs bf xs d _ dl no (rX hs _ d s a ha) (fun x' h'=>n5 x' (.tail _ h')) h;exact⟨T.z,fun b b0 b1 hb hn=>T.keep b b0 b1 (rX hs _ d s b hb) hn,T.kS,T.self,T.dl⟩
theorem Nf {c:LI}{may:LL}(io:fT c may):∀ (f:Nat) (d s:LI) (a:Int),d.length=may.length->pd c may d->0<=a->a<d.length->a ∉ s->(c.length:Int) ∉ may.getD a.toNat []->(cw c may f d s a).1=true->wc c may s a d (cw c may f d s a).2.1
 |0,_,_,_,_,_,_,_,_,_,h=>by cases h
 |f+1,d,s,a,dl,no,a0,a1,na,nn,h=>by
  have ky:a<may.length:=by rw[<- dl];exact a1
  have T:=Nc a0 ky (fun d s y=>BU f d s y) (fun d s y=>Od f d s y) (fun d s o h1 h2 h3 h4 h5 h6 h7=>Nf io f d s o h1 h2 h3 h4 h5 h6 h7) (may.getD a.toNat []) d (s++[a]) dl no (ij _ (.head _)) (fun x hx=>⟨(yj io a0 ky nn).2 x hx,hx⟩) h;exact⟨T.z,fun b b0 b1 hb hn=>T.keep b b0 b1 (nv _ hb) hn,T.kS,T.self,T.dl⟩
def Dn (c:LI)(may:LL)(d s:LI)(b:Int):Prop:=(c.length:Int) ∉ may.getD b.toNat []/\∀ x ∈ may.getD b.toNat [],¬ (d.count x:Int)<af c x/\∀ o:Int,0<=o->o<d.length->af d o=x->o ∈ s
structure Fl (c:LI) (may:LL) (d s s':LI):Prop where
 ok:cV c may d s'
 sub:∀ v ∈ s,v ∈ s'
 len:s.length<=s'.length
 new:∀ b ∈ s',b ∈ s\/Dn c may d s' b
theorem Dn.mono {c:LI}{may:LL}{d s s':LI}{b:Int}(h:Dn c may d s b)(e:∀ v ∈ s,v ∈ s'):Dn c may d s' b:=⟨h.1,fun x hx=>⟨(h.2 x hx).1,fun o o0 o1 ho=>e o ((h.2 x hx).2 o o0 o1 ho)⟩⟩
theorem Fl.trans {c:LI}{may:LL}{d s s1 s2:LI}(h1:Fl c may d s s1)(h2:Fl c may d s1 s2):Fl c may d s s2 :=
 ⟨h2.ok,fun v hv=>h2.sub v (h1.sub v hv),zd h1.len h2.len,fun b hb=>(h2.new b hb).elim (fun z=>(h1.new b z).elim .inl fun y=>.inr (y.mono h2.sub)) .inr⟩
theorem Cv {c:LI}{may:LL}{rec:LI->LI->Int->Rs}{a x:Int}{f:Nat}{d:LI}(hf:∀ d s y,(rec d s y).1=false->(rec d s y).2.1=d)(bf:∀ (s:LI) (o:Int),cV c may d s->0<=o->o<d.length->o ∉ s->(c.length:Int) ∉ may.getD o.toNat []->may.length<=f+s.length->(rec d s o).1=false->Fl c may d s (rec d s o).2.2/\o ∈ (rec d s o).2.2) :
  ∀ (os s:LI),cV c may d s->may.length<=f+s.length->(∀ o ∈ os,(0<=o/\o<d.length/\(c.length:Int) ∉ may.getD o.toNat [])/\af d o=x)->(dg rec a x os d s).1=false->Fl c may d s (dg rec a x os d s).2.2/\∀ o ∈ os,o ∈ (dg rec a x os d s).2.2
 |[],s,ok,_,_,_=>⟨⟨ok,fun _ z=>z,br _,fun b z=>.inl z⟩,fun _ z=>nomatch z⟩
 |o::os,s,ok,fu,mQ,h=>by
  have ho:=mQ o (.head _);rw[ud]at h ⊢;by_cases nZ:s.contains o=true
  ·rw[lp nZ]at h ⊢;have ih:=Cv hf bf os s ok fu (fun o' h'=>mQ o' (.tail _ h')) h;refine⟨ih.1,fun o' h'=>?_⟩;rcases gr.mp h' with rfl | z
   ·exact ih.1.sub _ (by simpa using nZ)
   ·exact ih.2 o' z
  ·rw[mf nZ]at h ⊢;have we:o ∉ s:=by simpa using nZ
   unfold tK at h ⊢;by_cases hr:(rec d s o).1=true
   ·rw[lp hr]at h;cases h
   ·rw[mf hr]at h ⊢;have aR:(rec d s o).1=false:=by simpa using hr
    have e:=hf d s o aR;have q:=bf s o ok ho.1.1 ho.1.2.1 we ho.1.2.2 fu aR;rw[e]at h ⊢;have ih:=Cv hf bf os _ q.1.ok (zd fu (NH q.1.len _)) (fun o' h'=>mQ o' (.tail _ h')) h;refine⟨q.1.trans ih.1,fun o' h'=>?_⟩;rcases gr.mp h' with rfl | z
    ·exact ih.1.sub _ q.2
    ·exact ih.2 o' z
theorem Ng {c:LI}{may:LL}{rec:LI->LI->Int->Rs}{a:Int}{f:Nat}{d:LI}(hf:∀ d s y,(rec d s y).1=false->(rec d s y).2.1=d)(no:pd c may d)(bf:∀ (s:LI) (o:Int),cV c may d s->0<=o->o<d.length->o ∉ s->(c.length:Int) ∉ may.getD o.toNat []->may.length<=f+s.length->(rec d s o).1=false->Fl c may d s (rec d s o).2.2/\o ∈ (rec d s o).2.2) :
  ∀ (xs s:LI),cV c may d s->may.length<=f+s.length->(∀ x ∈ xs,x<c.length)->(fS rec c a xs d s).1=false->Fl c may d s (fS rec c a xs d s).2.2/\∀ x ∈ xs,¬ (d.count x:Int)<af c x/\∀ o:Int,0<=o->o<d.length->af d o=x->o ∈ (fS rec c a xs d s).2.2
 |[],s,ok,_,_,_=>⟨⟨ok,fun _ z=>z,br _,fun b z=>.inl z⟩,fun _ z=>nomatch z⟩
 |x::xs,s,ok,fu,n5,h=>by
  rw[rJ]at h ⊢;by_cases hc:(d.count x:Int)<af c x
  ·rw[lp hc]at h;cases h
  ·rw[mf hc]at h ⊢;unfold p7 at h ⊢;by_cases hr:(dg rec a x (fc d x) d s).1=true
   ·rw[lp hr,hr]at h;cases h
   ·rw[mf hr]at h ⊢;have aR:(dg rec a x (fc d x) d s).1=false:=by simpa using hr
    have e:=t8 hf _ d s aR;have q:=Cv hf bf (fc d x) s ok fu (Nb ok.dl no (n5 x (.head _))) aR;rw[e]at h ⊢;have ih:=Ng hf no bf xs _ q.1.ok (zd fu (NH q.1.len _)) (fun o' h'=>n5 o' (.tail _ h')) h;refine⟨q.1.trans ih.1,fun y hy=>?_⟩;rcases gr.mp hy with rfl | z
    ·exact⟨hc,fun o o0 o1 ho=>ih.1.sub _ (q.2 o (Cq.mpr ⟨⟨o0,o1⟩,ho⟩))⟩
    ·exact ih.2 y z
theorem Nh {c:LI}{may:LL}(io:fT c may){d:LI}:∀ (f:Nat) (s:LI) (a:Int),cV c may d s->0<=a->a<d.length->a ∉ s->(c.length:Int) ∉ may.getD a.toNat []->may.length<=f+s.length->(cw c may f d s a).1=false->Fl c may d s (cw c may f d s a).2.2/\a ∈ (cw c may f d s a).2.2
 |0,s,a,ok,a0,a1,na,nn,fu,h=>by
  have ky:a<may.length:=by rw[<- ok.dl];exact a1
  have:=lO (ok.see a0 ky na).sr (ok.see a0 ky na).sn;rw[qr,EM]at this;omega
 |f+1,s,a,ok,a0,a1,na,nn,fu,h=>by
  have ky:a<may.length:=by rw[<- ok.dl];exact a1
  have q:=Ng (a:=a) (fun d s y=>BU f d s y) ok.no (fun s o h1 h2 h3 h4 h5 h6 h7=>Nh io f s o h1 h2 h3 h4 h5 h6 h7) (may.getD a.toNat []) (s++[a]) (ok.see a0 ky na) (by rw[qr,EM];omega) (fun x hx=>((yj io a0 ky nn).2 x hx).2) h;refine⟨⟨q.1.ok,fun v hv=>q.1.sub v (nv _ hv),zd (by rw[qr];omega) q.1.len,fun b hb=>?_⟩,q.1.sub a (ij _ (.head _))⟩;rcases q.1.new b hb with z | z
  ·rcases wb.mp z with z | z
   ·exact .inl z
   ·rw[rf.mp z];exact .inr ⟨nn,q.2⟩
  ·exact .inr z
structure Fo (n:Nat) (may:LL) (ai d s s':LI):Prop where
 ok:gA n may.length d s'
 sub:∀ v ∈ s,v ∈ s'
 len:s.length<=s'.length
 new:∀ y ∈ s',y ∈ s\/(y ∈ ai/\∀ a:Int,0<=a->a<may.length->y ∈ may.getD a.toNat []->af d a ∈ s')
theorem Fo.trans {n:Nat}{may:LL}{ai d s s1 s2:LI}(h1:Fo n may ai d s s1)(h2:Fo n may ai d s1 s2):Fo n may ai d s s2 :=
 ⟨h2.ok,fun v hv=>h2.sub v (h1.sub v hv),zd h1.len h2.len,fun b hb=>(h2.new b hb).elim (fun z=>(h1.new b z).elim .inl fun y=>.inr ⟨y.1,fun a a0 a1 ha=>h2.sub _ (y.2 a a0 a1 ha)⟩) .inr⟩
theorem BV {n:Nat}{may:LL}{ai:LI}{rec:LI->LI->Int->Rs}{x:Int}{f:Nat}{d:LI}(cy:∀ y ∈ ai,0<=y/\y<(n:Int))(hf:∀ d s y,(rec d s y).1=false->(rec d s y).2.1=d)(bf:∀ (s:LI) (y:Int),gA n may.length d s->0<=y->y<n->y ∉ s->y ∈ ai->n<=f+s.length->(rec d s y).1=false->Fo n may ai d s (rec d s y).2.2/\y ∈ (rec d s y).2.2) :
  ∀ (rs:LL) (a:Nat) (s:LI),may.drop a=rs->gA n may.length d s->n<=f+s.length->(ez rec ai x rs a d s).1=false->Fo n may ai d s (ez rec ai x rs a d s).2.2/\∀ b:Nat,a<=b->b<may.length->x ∈ may.getD b []->af d b ∈ (ez rec ai x rs a d s).2.2
 |[],a,s,hm,ok,fu,h=>by
  refine⟨⟨ok,fun _ z=>z,br _,fun b z=>.inl z⟩,fun b h1 h2 _=>?_⟩;have:(may.drop a).length=0:=by rw[hm];rfl
  rw[List.length_drop]at this;omega
 |r::rs,a,s,hm,ok,fu,h=>by
  have ha:a<may.length:=by
   rcases JJ a may.length with z | z
   ·exact z
   ·rw[ajV z]at hm;cases hm
  have ju:may[a]=r/\may.drop (a+1)=rs:=by
   rw[HT ha]at hm
   injection hm with e1 e2
   exact⟨e1,e2⟩
  have iI:may.getD a []=r:=by rw[ba,ab ha,ju.1];rfl
  have ea:(a:Int)+1=((a+1:Nat):Int):=by omega
  unfold ez at h ⊢;by_cases h1:(r.contains x && !s.contains (af d a))=true
  ·rw[lp h1]at h ⊢;rw[BS]at h1;have iz:af d a ∉ s:=by simpa using h1.2
   by_cases h2:ai.contains (af d a)=true
   ·rw[lp h2]at h ⊢;have jq:af d a ∈ ai:=by simpa using h2
    by_cases h3:(rec d s (af d a)).1=true
    ·rw[lp h3]at h;cases h
    ·rw[mf h3]at h ⊢;have jr:(rec d s (af d a)).1=false:=by simpa using h3
     have e:=hf d s _ jr;have q:=bf s _ ok (cy _ jq).1 (cy _ jq).2 iz jq fu jr;rw[e,ea]at h ⊢;have ih:=BV cy hf bf rs (a+1) _ ju.2 q.1.ok (zd fu (NH q.1.len _)) h;refine⟨q.1.trans ih.1,fun b b0 b1 hb=>?_⟩;by_cases eb:a=b
     ·rw[<- eb];exact ih.1.sub _ q.2
     ·exact ih.2 b (by omega) b1 hb
   ·rw[mf h2]at h;cases h
  ·rw[mf h1]at h ⊢;rw[ea]at h ⊢;have ih:=BV cy hf bf rs (a+1) s ju.2 ok fu h;refine⟨ih.1,fun b b0 b1 hb=>?_⟩;by_cases eb:a=b
   ·subst eb;rw[iI]at hb;refine ih.1.sub _ (Classical.byContradiction fun z=>h1 ?_);rw[BS];exact⟨by simpa using hb,by simpa using z⟩
   ·exact ih.2 b (by omega) b1 hb
theorem Mr {n:Nat}{may:LL}{ai:LI}{d:LI}(cy:∀ y ∈ ai,0<=y/\y<(n:Int)):∀ (f:Nat) (s:LI) (x:Int),gA n may.length d s->0<=x->x<n->x ∉ s->x ∈ ai->n<=f+s.length->(outF may ai f d s x).1=false->Fo n may ai d s (outF may ai f d s x).2.2/\x ∈ (outF may ai f d s x).2.2
 |0,s,x,ok,x0,x1,nx,hx,fu,h=>by
  have:=lO (ok.see x0 x1 nx).sr (ok.see x0 x1 nx).sn;rw[qr,EM]at this;omega
 |f+1,s,x,ok,x0,x1,nx,hx,fu,h=>by
  have q:=BV (x:=x) cy (fun d s y=>Bv f d s y) (fun s y h1 h2 h3 h4 h5 h6 h7=>Mr cy f s y h1 h2 h3 h4 h5 h6 h7) may 0 (s++[x]) rfl (ok.see x0 x1 nx) (by rw[qr,EM];omega) h;refine⟨⟨q.1.ok,fun v hv=>q.1.sub v (nv _ hv),zd (by rw[qr];omega) q.1.len,fun b hb=>?_⟩,q.1.sub x (ij _ (.head _))⟩;rcases q.1.new b hb with z | z
  ·rcases wb.mp z with z | z
   ·exact .inl z
   ·rw[rf.mp z];exact .inr ⟨hx,fun a a0 a1 ha=>by
     have:=q.2 a.toNat (DO _) (by omega) ha;rw[show((a.toNat:Nat):Int)=a by omega]at this;exact this⟩
  ·exact .inr z
theorem rn:∀ {L S:LI},L.Nodup->(∀ x ∈ L,x ∈ S)->L.length<=S.length
 |[],_,_,_=>DO _
 |x::L,S,nd,h=>by
  have n2:=BB.mp nd;have hx:=h x (.head _);have ih:=rn (L:=L) (S:=S.erase x) n2.2 fun y hy=>(akk (show y ≠ x from fun e=>n2.1 (e ▸ hy))).mpr (h y (.tail _ hy))
  rw[List.length_erase_of_mem hx]at ih;have:=List.length_pos_of_mem hx;rw[AN];omega
theorem Ms {k:Int}{N:LI}(h:k ∉ N):∀ d:LI,(d.filter fun y=>(k::N).contains y).length=d.count k+(d.filter fun y=>N.contains y).length
 |[] => rfl
 |y::d=>by
  have ih:=Ms h d;rw[Lm,Lm,OK,akx];by_cases e:y=k
  ·subst e;rw[show N.contains y=false by simpa using h,show(y==y)=true by simp,Bool.true_or,lp rfl,mf (c:=(false=true)) (by simp),lp rfl,AN,ih];omega
  ·rw[show(y==k)=false by simpa using e,Bool.false_or,mf (c:=(false=true)) (by simp)];by_cases hn:N.contains y=true
   ·rw[hn,lp rfl,lp rfl,AN,AN,ih];omega
   ·rw[mf hn,mf hn,ih];omega
theorem Bw (d:LI):∀ {N:LI},N.Nodup->(N.map fun k=>(d.count k:Int)).sum=((d.filter fun y=>N.contains y).length:Nat)
 |[],_=>by
  rw[ajW.mpr (fun y _=>by simp)];rfl
 |k::N,nd=>by
  have n2:=BB.mp nd;rw[i8,ue,Bw d n2.2,Ms n2.1];omega
theorem uK {f g:Int->Int}:∀ {N:LI},(∀ k ∈ N,f k<=g k)->(N.map f).sum<=(N.map g).sum
 |[],_=>YE _
 |k::N,h=>by
  have:=uK (f:=f) (g:=g) (N:=N) fun y hy=>h y (.tail _ hy)
  have:=h k (.head _);rw[i8,i8,ue,ue];omega
theorem Py {f g:Int->Int}{x:Int}:∀ {N:LI},(∀ k ∈ N,f k<=g k)->x ∈ N->f x<g x->(N.map f).sum<(N.map g).sum
 |k::N,h,hx,lt=>by
  have h1:=uK (f:=f) (g:=g) (N:=N) fun y hy=>h y (.tail _ hy)
  have h2:=h k (.head _);rw[i8,i8,ue,ue];rcases gr.mp hx with rfl | z
  ·omega
  ·have:=Py (f:=f) (g:=g) (N:=N) (fun y hy=>h y (.tail _ hy)) z lt;omega
theorem Ni {f:Int->Int}{a b:LI}(p:a.Perm b):(a.map f).sum=(b.map f).sum:=by
 induction p with
 |nil=>rfl
 |cons x _ ih=>rw[i8,i8,ue,ue,ih]
 |swap x y l=>rw[i8,i8,i8,i8,ue,ue,ue,ue];omega
 |trans _ _ h1 h2=>exact h1.trans h2
theorem Cw {α:Type}(l:List α)(e : α):l=(ah l.length).map fun a=>l.getD a.toNat e:=by
 refine IF fun n=>?_
 unfold ah;rw[gz,ee];by_cases hn:n<l.length
 ·rw[CS hn,ab hn];show some l[n]=some (l.getD (0+((n:Nat):Int)).toNat e);rw[Zp,zw,ba,ab hn];rfl
 ·rw[nt (l:=l) (by omega),nt (l:=List.range l.length) (by rw[Cf];omega)];rfl
theorem wU {α:Type}(l:List α)(e : α)(p : α->Bool):(l.filter p).length=((ah l.length).filter fun a=>p (l.getD a.toNat e)).length:=by
 have h:=Cw l e;have:l.filter p=((ah l.length).map fun a=>l.getD a.toNat e).filter p:=by rw[<- h]
 rw[this,ajM,aa];rfl
structure mz (c:LI) (may:LL) (S:LI):Prop where
 ne:S ≠ []
 nd:S.Nodup
 rg:∀ b ∈ S,(0<=b/\b<may.length)/\(c.length:Int) ∉ may.getD b.toNat []
 sum:(((ah c.length).filter fun k=>S.any fun b=>(may.getD b.toNat []).contains k).map (af c)).sum<S.length
structure kT (c:LI) (may:LL) (ai S:LI):Prop where
 ne:S ≠ []
 nd:S.Nodup
 sub:∀ y ∈ S,y ∈ ai
 sum:((may.filter fun r=>r.any fun y=>S.contains y).length:Int)<(S.map (af c)).sum
theorem mz.of {c:LI}{may:LL}{d S:LI}{a:Int}(dl:d.length=may.length)(nd:S.Nodup)(ha:a ∈ S)(hd:af d a = -1)(rg:∀ b ∈ S,0<=b/\b<may.length)(dn:∀ b ∈ S,Dn c may d S b):mz c may S:=by
 refine⟨fun e=>(by rw[e]at ha;cases ha),nd,fun b hb=>⟨rg b hb,(dn b hb).1⟩,?_⟩;have hN:∀ k ∈ (ah c.length).filter (fun k=>S.any fun b=>(may.getD b.toNat []).contains k),0<=k/\∃ b ∈ S,k ∈ may.getD b.toNat []:=fun k hk=>by
  obtain⟨h1,h2⟩:=AM.mp hk;obtain⟨b,hb,h3⟩:=Sm.mp h2;exact⟨(aW.mp h1).1,b,hb,by simpa using h3⟩
 have nN:((ah c.length).filter fun k=>S.any fun b=>(may.getD b.toNat []).contains k).Nodup:=(oh _).filter _;generalize (ah c.length).filter (fun k=>S.any fun b=>(may.getD b.toNat []).contains k)=N at hN nN;have h1:=uK (f:=af c) (g:=fun k=>(d.count k:Int)) (N:=N) fun k hk=>by
  obtain⟨_,b,hb,h⟩:=hN k hk;have:=((dn b hb).2 k h).1;omega
 rw[Bw d nN,wU d 0]at h1;have h2:((ah d.length).filter fun o=>N.contains (d.getD o.toNat 0)).length<=(S.erase a).length:=rn ((oh _).filter _) fun o ho=>by
  obtain⟨h3,h4⟩:=AM.mp ho;have jr:=aW.mp h3;have h4':af d o ∈ N:=by
   unfold af;simpa using h4
  obtain⟨h5,b,hb,h6⟩:=hN _ h4';have:o ≠ a:=fun e=>by rw[e,hd]at h5;omega
  exact(akk this).mpr (((dn b hb).2 _ h6).2 o jr.1 jr.2 rfl)
 rw[List.length_erase_of_mem ha]at h2;have:=List.length_pos_of_mem ha;omega
theorem kT.of {c:LI}{may:LL}{ai d S:LI}{x:Int}(dl:d.length=may.length)(nd:S.Nodup)(hx:x ∈ S)(lt:(d.count x:Int)<af c x)(le:∀ k ∈ S,(d.count k:Int)<=af c k)(sub:∀ y ∈ S,y ∈ ai)(cl:∀ y ∈ S,∀ a:Int,0<=a->a<may.length->y ∈ may.getD a.toNat []->af d a ∈ S):kT c may ai S:=by
 refine⟨fun e=>(by rw[e]at hx;cases hx),nd,sub,?_⟩;have h1:=Py (f:=fun k=>(d.count k:Int)) (g:=af c) le hx lt;rw[Bw d nd,wU d 0]at h1;rw[wU may []];refine ajR (Int.ofNat_le.mpr ?_) h1;rw[<- dl,<- aje,<- aje];refine ajl fun a ha h=>?_
 have jM:=aW.mp ha;obtain⟨y,hy,hy2⟩:=Sm.mp h;have:=cl y (by simpa using hy2) a jM.1 (by rw[<- dl];exact jM.2) hy;unfold af at this;simpa using this
def eP (n:Nat)(may:LL):LI:=may.map fun r=>if r.contains (n:Int)then (n:Int)else -1
def dh (c:LI)(may:LL):LI->LI->Rs
 |[],d=>(true,d,[])
 |a::as,d=>if af d a<0 then (if(cw c may 7 d [] a).1=true then dh c may as (cw c may 7 d [] a).2.1 else cw c may 7 d [] a)else dh c may as d
def gB (c:LI)(may:LL)(ai:LI)(x:Int):Nat->LI->Rs
 |0,d=>(true,d,[])
 |m+1,d=>if(outF may ai 7 d [] x).1=true then gB c may ai x m (outF may ai 7 d [] x).2.1 else outF may ai 7 d [] x
def fi (c:LI)(may:LL)(ai:LI):LI->LI->Rs
 |[],d=>(true,d,[])
 |x::xs,d=>if(gB c may ai x (af c x-d.count x).toNat d).1=true then fi c may ai xs (gB c may ai x (af c x-d.count x).toNat d).2.1 else gB c may ai x (af c x-d.count x).toNat d
structure jv (c:LI) (may:LL) (d:LI):Prop where
 g:cV c may d []
 mem:∀ a:Int,0<=a->a<may.length->af d a = -1\/af d a ∈ may.getD a.toNat []
 cnt:∀ k:Int,0<=k->k<c.length->(d.count k:Int)<=af c k
theorem cV.fresh {c:LI}{may:LL}{d s:LI}(h:cV c may d s):cV c may d []:=⟨h.dl,h.dr,fun _ z=>(nomatch z),.nil,h.no⟩
theorem uv {may:LL}{a:Int}(a0 : 0<=a)(a1:a<may.length):may.getD a.toNat [] ∈ may:=by
 rw[ba,ab (show a.toNat<may.length by omega)];exact MW _
theorem jv.nn {c:LI}{may:LL}{d:LI}(h:jv c may d){a:Int}(a0 : 0<=a)(a1:a<may.length)(hd:af d a<0):(c.length:Int) ∉ may.getD a.toNat []:=fun z=>by
 have:=h.g.no a a0 a1 z;omega
theorem jv.neg {c:LI}{may:LL}(io:fT c may){d:LI}(h:jv c may d){a:Int}(a0 : 0<=a)(a1:a<may.length)(hd:af d a<0):af d a = -1:=by
 rcases h.mem a a0 a1 with z | z
 ·exact z
 ·have:=(io.row _ (uv a0 a1)).2 _ z;omega
theorem jv.give {c:LI}{may:LL}(io:fT c may){d:LI}(h:jv c may d){a:Int}(a0 : 0<=a)(a1:a<may.length)(hd:af d a<0)(ht:(cw c may 7 d [] a).1=true):jv c may (cw c may 7 d [] a).2.1/\(0<=af (cw c may 7 d [] a).2.1 a)/\∀ b:Int,0<=b->b<may.length->0<=af d b->0<=af (cw c may 7 d [] a).2.1 b:=by
 have nn:=h.nn a0 a1 hd;have nK:=h.neg io a0 a1 hd;have kp:=yk io 7 d [] a h.g a0 a1 (fun z=>nomatch z) nn;have T:=Nf io 7 d [] a h.g.dl h.g.no a0 (by rw[h.g.dl];exact a1) (fun z=>nomatch z) nn ht;have kf:cV c may (cw c may 7 d [] a).2.1 []:=kp.ok.fresh;generalize (cw c may 7 d [] a).2.1=d' at kf T;have ge:∀ b:Int,0<=b->b<may.length->∀ x,x ∈ may.getD b.toNat []->0<=x:=fun b b0 b1 x hx=>((io.row _ (uv b0 b1)).2 x hx).1
 refine⟨⟨kf,fun b b0 b1=>?_,fun k k0 k1=>?_⟩,ge a a0 a1 _ T.self,fun b b0 b1 hb=>?_⟩
 ·rcases T.kS b b0 (by rw[h.g.dl];exact b1)with z | z
  ·rw[z];exact h.mem b b0 b1
  ·exact .inr z
 ·obtain⟨z,z1,z2,z3,z4⟩:=T.z;have h1:=z4 k;have h2:=h.cnt k k0 k1;rw[mf (show ¬ af d a=k by omega)]at h1;by_cases e:z=k
  ·rw[lp e]at h1;rw[e]at z1;omega
  ·rw[mf e]at h1;omega
 ·rcases T.kS b b0 (by rw[h.g.dl];exact b1)with z | z
  ·rw[z];exact hb
  ·exact ge b b0 b1 _ z
theorem jv.short {c:LI}{may:LL}(io:fT c may){d:LI}(h:jv c may d){a:Int}(a0 : 0<=a)(a1:a<may.length)(hd:af d a<0)(ht:(cw c may 7 d [] a).1=false):mz c may (cw c may 7 d [] a).2.2:=by
 have A6:=io.A6;have nn:=h.nn a0 a1 hd;have q:=Nh io 7 [] a h.g a0 (by rw[h.g.dl];exact a1) (fun z=>nomatch z) nn (by rw[ajj];omega) ht;exact mz.of h.g.dl q.1.ok.sn q.2 (h.neg io a0 a1 hd) q.1.ok.sr fun b hb=>(q.1.new b hb).elim (fun z=>nomatch z) id
theorem xZ {c:LI}{may:LL}(io:fT c may):∀ (as d:LI),jv c may d->(∀ a ∈ as,0<=a/\a<may.length)->((dh c may as d).1=true->jv c may (dh c may as d).2.1/\(∀ a ∈ as,0<=af (dh c may as d).2.1 a)/\∀ b:Int,0<=b->b<may.length->0<=af d b->0<=af (dh c may as d).2.1 b)/\((dh c may as d).1=false->mz c may (dh c may as d).2.2)
 |[],d,h,_=>⟨fun _=>⟨h,fun _ z=>(nomatch z),fun _ _ _ z=>z⟩,fun z=>by cases z⟩
 |a::as,d,h,has=>by
  have ha:=has a (.head _);have hs:∀ b ∈ as,0<=b/\b<may.length:=fun b hb=>has b (.tail _ hb)
  unfold dh;by_cases hd:af d a<0
  ·rw[lp hd];by_cases ht:(cw c may 7 d [] a).1=true
   ·rw[lp ht];have g:=h.give io ha.1 ha.2 hd ht;have ih:=xZ io as _ g.1 hs;refine⟨fun z=>?_,ih.2⟩;have q:=ih.1 z;refine⟨q.1,fun b hb=>?_,fun b b0 b1 hb=>q.2.2 b b0 b1 (g.2.2 b b0 b1 hb)⟩;rcases gr.mp hb with rfl | y
    ·exact q.2.2 _ ha.1 ha.2 g.2.1
    ·exact q.2.1 b y
   ·rw[mf ht];exact⟨fun z=>absurd z ht,fun z=>h.short io ha.1 ha.2 hd z⟩
  ·rw[mf hd];have ih:=xZ io as d h hs;refine⟨fun z=>?_,ih.2⟩;have q:=ih.1 z;refine⟨q.1,fun b hb=>?_,q.2.2⟩;rcases gr.mp hb with rfl | y
   ·exact q.2.2 _ ha.1 ha.2 (by omega)
   ·exact q.2.1 b y
theorem Mt {n:Nat}{may:LL}{a:Int}(a0 : 0<=a)(a1:a<may.length):af (eP n may) a=if(may.getD a.toNat []).contains (n:Int)then (n:Int)else -1:=by
 unfold af eP;rw[ba,ee,ba,ab (show a.toNat<may.length by omega)];rfl
theorem BW {c:LI}{may:LL}(io:fT c may)(c0:∀ x ∈ c,0<=x):jv c may (eP c.length may):=by
 have hv:∀ y ∈ eP c.length may,y=c.length\/y = -1:=fun y hy=>by
  obtain⟨r,hr,rfl⟩:=i4.mp hy;split
  ·exact .inl rfl
  ·exact .inr rfl
 refine⟨⟨aa _,fun y hy=>?_,fun _ z=>(nomatch z),.nil,fun a a0 a1 ha=>?_⟩,fun a a0 a1=>?_,fun k k0 k1=>?_⟩
 ·rcases hv y hy with z | z<;>omega
 ·rw[Mt a0 a1,lp (by simpa using ha)]
 ·rw[Mt a0 a1];by_cases z:(may.getD a.toNat []).contains (c.length:Int)=true
  ·rw[lp z];exact .inr (by simpa using z)
  ·rw[mf z];exact .inl rfl
 ·have:(eP c.length may).count k=0:=akE.mpr fun z=>by
   rcases hv k z with y | y<;>omega
  rw[this];exact c0 _ (iZ k0 k1)
structure gX (c:LI) (may:LL) (d:LI):Prop where
 dl:d.length=may.length
 mem:∀ a:Int,0<=a->a<may.length->af d a ∈ may.getD a.toNat []
 cnt:∀ k:Int,0<=k->k<c.length->(d.count k:Int)<=af c k
theorem gX.ot {c:LI}{may:LL}(io:fT c may){d:LI}(h:gX c may d):gA c.length may.length d []:=by
 refine⟨h.dl,fun y hy=>?_,fun _ z=>(nomatch z),.nil⟩;obtain⟨n,hn,e⟩:=ai9 hy;have:=h.mem n (by omega) (by rw[<- h.dl];omega);have hl:af d (n:Nat)=y:=by
  unfold af;rw[zw,ba,ab hn,e];rfl
 rw[hl]at this;have:=(io.row _ (uv (a:=n) (by omega) (by rw[<- h.dl];omega))).2 y this;omega
theorem gX.out {c:LI}{may:LL}(io:fT c may){ai d:LI}(h:gX c may d)(cy:∀ y ∈ ai,0<=y/\y<(c.length:Int)){x:Int}(hx:x ∈ ai)(lt:(d.count x:Int)<af c x)(ht:(outF may ai 7 d [] x).1=true):gX c may (outF may ai 7 d [] x).2.1/\((outF may ai 7 d [] x).2.1.count x:Int)=d.count x+1/\∀ y ∈ ai,(d.count y:Int)<=(outF may ai 7 d [] x).2.1.count y:=by
 have T:=Mp 7 d [] x h.dl ht;generalize (outF may ai 7 d [] x).2.1=d' at T;obtain⟨z,z1,z2⟩:=T.z;refine⟨⟨T.dl.trans h.dl,fun a a0 a1=>?_,fun k k0 k1=>?_⟩,?_,fun y hy=>?_⟩
 ·rcases T.kS a a0 (by rw[h.dl];exact a1)with y | y
  ·rw[y];exact h.mem a a0 a1
  ·exact y
 ·have h1:=z2 k;have h2:=h.cnt k k0 k1;by_cases e:x=k
  ·subst e;rw[lp rfl]at h1;by_cases e2:z=x
   ·rw[lp e2]at h1;omega
   ·rw[mf e2]at h1;omega
  ·rw[mf e]at h1;by_cases e2:z=k
   ·rw[lp e2]at h1;omega
   ·rw[mf e2]at h1;omega
 ·have h1:=z2 x;rw[lp rfl,mf (show ¬ z=x from fun e=>z1 (e ▸ hx))]at h1;omega
 ·have h1:=z2 y;rw[mf (show ¬ z=y from fun e=>z1 (e ▸ hy))]at h1;by_cases e:x=y
  ·rw[lp e]at h1;omega
  ·rw[mf e]at h1;omega
theorem gX.many {c:LI}{may:LL}(io:fT c may){ai d:LI}(h:gX c may d)(cy:∀ y ∈ ai,0<=y/\y<(c.length:Int)){x:Int}(hx:x ∈ ai)(lt:(d.count x:Int)<af c x)(ht:(outF may ai 7 d [] x).1=false):kT c may ai (outF may ai 7 d [] x).2.2:=by
 have n6:=io.n6;have q:=Mr cy 7 [] x (h.ot io) (cy x hx).1 (cy x hx).2 (fun z=>nomatch z) hx (by rw[ajj];omega) ht;exact kT.of h.dl q.1.ok.sn q.2 lt (fun k hk=>h.cnt k (q.1.ok.sr k hk).1 (q.1.ok.sr k hk).2) (fun y hy=>(q.1.new y hy).elim (fun z=>nomatch z) (·.1)) fun y hy=>(q.1.new y hy).elim (fun z=>nomatch z) (·.2)
theorem Oe {c:LI}{may:LL}(io:fT c may){ai:LI}(cy:∀ y ∈ ai,0<=y/\y<(c.length:Int)){x:Int}(hx:x ∈ ai):∀ (m:Nat) (d:LI),gX c may d->m=(af c x-d.count x).toNat->((gB c may ai x m d).1=true->gX c may (gB c may ai x m d).2.1/\af c x<=(gB c may ai x m d).2.1.count x/\∀ y ∈ ai,(d.count y:Int)<=(gB c may ai x m d).2.1.count y)/\((gB c may ai x m d).1=false->kT c may ai (gB c may ai x m d).2.2)
 |0,d,h,hm=>⟨fun _=>⟨h,(by show af c x<=(d.count x:Int);omega),fun _ _=>YE _⟩,fun z=>by cases z⟩
 |m+1,d,h,hm=>by
  have lt:(d.count x:Int)<af c x:=by omega
  unfold gB;by_cases ht:(outF may ai 7 d [] x).1=true
  ·rw[lp ht];have g:=h.out io cy hx lt ht;have ih:=Oe io cy hx m _ g.1 (by rw[g.2.1];omega);refine⟨fun z=>?_,ih.2⟩;have q:=ih.1 z;exact⟨q.1,q.2.1,fun y hy=>aka (g.2.2 y hy) (q.2.2 y hy)⟩
  ·rw[mf ht];exact⟨fun z=>absurd z ht,fun z=>h.many io cy hx lt z⟩
theorem Og {c:LI}{may:LL}(io:fT c may){ai:LI}(cy:∀ y ∈ ai,0<=y/\y<(c.length:Int)):∀ (xs d:LI),gX c may d->(∀ x ∈ xs,x ∈ ai)->((fi c may ai xs d).1=true->gX c may (fi c may ai xs d).2.1/\(∀ x ∈ xs,af c x<=(fi c may ai xs d).2.1.count x)/\∀ y ∈ ai,(d.count y:Int)<=(fi c may ai xs d).2.1.count y)/\((fi c may ai xs d).1=false->kT c may ai (fi c may ai xs d).2.2)
 |[],d,h,_=>⟨fun _=>⟨h,fun _ z=>(nomatch z),fun _ _=>YE _⟩,fun z=>by cases z⟩
 |x::xs,d,h,n5=>by
  have hx:=n5 x (.head _);have W:=Oe io cy hx _ d h rfl;unfold fi;generalize gB c may ai x (af c x-d.count x).toNat d=r at W;by_cases ht:r.1=true
  ·rw[lp ht];have g:=W.1 ht;have ih:=Og io cy xs _ g.1 fun y hy=>n5 y (.tail _ hy)
   refine⟨fun z=>?_,ih.2⟩;have q:=ih.1 z;refine⟨q.1,fun y hy=>?_,fun y hy=>aka (g.2.2 y hy) (q.2.2 y hy)⟩;rcases gr.mp hy with rfl | w
   ·exact aka g.2.1 (q.2.2 _ hx)
   ·exact q.2.1 y w
  ·rw[mf ht];exact⟨fun z=>absurd z ht,W.2⟩
def i9 (c:LI)(may:LL)(ai:LI):Nat×LI :=
 if(dh c may (ah may.length) (eP c.length may)).1=true then
  (if(fi c may ai ai (dh c may (ah may.length) (eP c.length may)).2.1).1=true then (0,(fi c may ai ai (dh c may (ah may.length) (eP c.length may)).2.1).2.1)
   else (2,sortI (fi c may ai ai (dh c may (ah may.length) (eP c.length may)).2.1).2.2))
 else (1,sortI (dh c may (ah may.length) (eP c.length may)).2.2)
structure DQ (c:LI) (may:LL) (ai d:LI):Prop where
 ok:gX c may d
 full:∀ y ∈ ai,af c y<=d.count y
structure Qw (c:LI) (may:LL) (S:LI):Prop where
 u:mz c may S
 lt:S.Pairwise (· < ·)
structure Qx (c:LI) (may:LL) (ai S:LI):Prop where
 u:kT c may ai S
 lt:S.Pairwise (· < ·)
theorem Oh {S:LI}(nd:S.Nodup):(sortI S).Pairwise (· < ·):=by
 have h1:=xc S;have h2:(sortI S).Nodup:=(sortI_perm S).nodup_iff.mpr nd;have:=h1.and h2;exact this.imp fun h=>by omega
theorem uf {S:LI}{x:Int}:x ∈ sortI S ↔ x ∈ S:=(sortI_perm S).mem_iff
theorem mz.sorted {c:LI}{may:LL}{S:LI}(h:mz c may S):Qw c may (sortI S):=by
 refine⟨⟨fun e=>h.ne ?_,(sortI_perm S).nodup_iff.mpr h.nd,fun b hb=>h.rg b (uf.mp hb),?_⟩,Oh h.nd⟩
 ·have:=(sortI_perm S).length_eq;rw[e]at this;exact aki this.symm
 ·have:((ah c.length).filter fun k=>(sortI S).any fun b=>(may.getD b.toNat []).contains k)=(ah c.length).filter fun k=>S.any fun b=>(may.getD b.toNat []).contains k:=akS fun k _=>by
   rw[WJ,Sm,Sm];exact⟨fun⟨b,h1,h2⟩=>⟨b,uf.mp h1,h2⟩,fun⟨b,h1,h2⟩=>⟨b,uf.mpr h1,h2⟩⟩
  rw[this,(sortI_perm S).length_eq];exact h.sum
theorem kT.sorted {c:LI}{may:LL}{ai S:LI}(h:kT c may ai S):Qx c may ai (sortI S):=by
 refine⟨⟨fun e=>h.ne ?_,(sortI_perm S).nodup_iff.mpr h.nd,fun b hb=>h.sub b (uf.mp hb),?_⟩,Oh h.nd⟩
 ·have:=(sortI_perm S).length_eq;rw[e]at this;exact aki this.symm
 ·have:(may.filter fun r=>r.any fun y=>(sortI S).contains y)=may.filter fun r=>r.any fun y=>S.contains y:=akS fun r _=>by
   congr 1
   funext y
   rw[WJ];simp only[List.contains_iff_mem];exact uf
  rw[this,Ni (sortI_perm S)];exact h.sum
theorem Oi {c:LI}{may:LL}(io:fT c may)(c0:∀ x ∈ c,0<=x)(h:(dh c may (ah may.length) (eP c.length may)).1=true):gX c may (dh c may (ah may.length) (eP c.length may)).2.1:=by
 have q:=(xZ io (ah may.length) _ (BW io c0) fun a ha=>aW.mp ha).1 h;refine⟨q.1.g.dl,fun a a0 a1=>?_,q.1.cnt⟩;rcases q.1.mem a a0 a1 with z | z
 ·have:=q.2.1 a (aW.mpr ⟨a0,a1⟩);omega
 ·exact z
theorem aac {c:LI}{may:LL}(io:fT c may)(c0:∀ x ∈ c,0<=x){ai:LI}(cy:∀ y ∈ ai,0<=y/\y<(c.length:Int)):((i9 c may ai).1=0/\DQ c may ai (i9 c may ai).2)\/((i9 c may ai).1=1/\Qw c may (i9 c may ai).2)\/((i9 c may ai).1=2/\Qx c may ai (i9 c may ai).2):=by
 have q:=(xZ io (ah may.length) _ (BW io c0) fun a ha=>aW.mp ha).2;have e:=Oi io c0;unfold i9;generalize dh c may (ah may.length) (eP c.length may)=g at q e;by_cases hg:g.1=true
 ·rw[lp hg];have o:=Og io cy ai g.2.1 (e hg) fun _ z=>z
  generalize fi c may ai ai g.2.1=r at o;by_cases hr:r.1=true
  ·rw[lp hr];exact .inl ⟨rfl,(o.1 hr).1,(o.1 hr).2.1⟩
  ·rw[mf hr];exact .inr (.inr ⟨rfl,(o.2 (by simpa using hr)).sorted⟩)
 ·rw[mf hg];exact .inr (.inl ⟨rfl,(q (by simpa using hg)).sorted⟩)
end
section
variable {P:Program}{w:World}{K:Frag}{mg:Str->Option Value}{base:Heap}
def DR (x:Str)(S:LI):Tr:=.tp [tn,.tp [tx x,aU S]]
def vp (r:Rs):Tr:=if r.1=true then .tp [aU r.2.1,tn]else DR "things" (sortI r.2.2)
def yZ (c:LI)(may:LL)(ai:LI)(r:Rs):Tr:=if r.1=true then vp (fi c may ai ai r.2.1)else DR "askers" (sortI r.2.2)
def Es (c:LI)(may:LL)(ai:LI):Tr:=yZ c may ai (dh c may (ah may.length) (eP c.length may))
structure Fq (c:LI) (may:LL) (ai:LI):Prop where
 io:fT c may
 c0:∀ x ∈ c,0<=x
 mu:∀ y ∈ ai,0<=y/\y<(c.length:Int)
def Qy (dd:List Dv)(t:Tr):Prop:=∃ c may ai,Fq c may ai/\dd=[dis c,.lst (may.map dis),dis ai]/\t=Es c may ai
theorem Mu {K:Frag}{G H Hc:Hp}{l p1 p2:Addr}{x:Str}{S ms:LI}{Q:VK}(s:au G H)(sH:au H Hc)(pm:ms.Perm S)(pw:ms.Pairwise (· <= ·))(hl:Hc l=none)(h1:upd Hc l (.lst (ms.map V.int)) p1=none)(h2:upd (upd Hc l (.lst (ms.map V.int))) p1 (.tup [.str x,.ref l]) p2=none)(k:Kv K G H (DR x (sortI S)) Q):Q (.ref p2) (upd (upd (upd Hc l (.lst (ms.map V.int))) p1 (.tup [.str x,.ref l])) p2 (.tup [.aH,.ref p1])):=by
 have em:ms=sortI S:=Bm (pm.trans (sortI_perm S).symm) pw (xc S);subst em;have n1:p1 ≠ l:=fun e=>by rw[e,bO]at h1;cases h1
 have n2:p2 ≠ p1:=fun e=>by rw[e,bO]at h2;cases h2
 have n3:p2 ≠ l:=fun e=>by rw[e,aQ (Ne.symm n1),bO]at h2;cases h2
 have zN:Hc p1=none:=by rw[aQ n1]at h1;exact h1
 have nU:Hc p2=none:=by rw[aQ n2,aQ n3]at h2;exact h2
 have sF:au H (upd (upd (upd Hc l (.lst ((sortI S).map V.int))) p1 (.tup [.str x,.ref l])) p2 (.tup [.aH,.ref p1])):=((sH.trans (.new hl)).trans (.new h1)).trans (.new h2);have ow:aE K G (upd (upd (upd Hc l (.lst ((sortI S).map V.int))) p1 (.tup [.str x,.ref l])) p2 (.tup [.aH,.ref p1])) ((sortI S).map fun n=>.fz (di n)) ((sortI S).map V.int) []:=by
  have:=bC.jK (K:=K) (G:=G) (H:=upd (upd (upd Hc l (.lst ((sortI S).map V.int))) p1 (.tup [.str x,.ref l])) p2 (.tup [.aH,.ref p1])) (rD (ns:=sortI S));rw[gz]at this;exact this
 refine k (.ref p2) G _ [p2,p1,l] ⟨au.refl _,sF,s.trans sF,fun a h h'=>absurd h h'⟩ ⟨p2,_,[p1,l],rfl,bO,⟨.aH,_,[],[p1,l],rfl,rfl,⟨rfl,rfl,rfl⟩,.ref p1,_,[p1,l],[],rfl,rfl,⟨p1,_,[l],rfl,by rw[aQ (Ne.symm n2),bO],⟨.str x,_,[],[l],rfl,rfl,⟨rfl,rfl,rfl⟩,.ref l,_,[l],[],rfl,rfl,⟨l,_,[],rfl,by rw[aQ (Ne.symm n3),aQ (Ne.symm n1),bO],ow,rfl⟩,rfl,rfl⟩,rfl⟩,rfl,rfl⟩,rfl⟩ ⟨fun a ha=>?_,fun a ha=>?_,?_⟩
 ·rcases gr.mp ha with rfl | ha
  ·exact sH.free nU
  ·rcases gr.mp ha with rfl | ha
   ·exact sH.free zN
   ·rw[rf.mp ha];exact sH.free hl
 ·rcases gr.mp ha with rfl | ha
  ·exact s.free (sH.free nU)
  ·rcases gr.mp ha with rfl | ha
   ·exact s.free (sH.free zN)
   ·rw[rf.mp ha];exact s.free (sH.free hl)
 ·simp[n1,n2,n3]
theorem Y2 {K:Frag}{G H Hc:Hp}{l p2:Addr}{d:LI}{Q:VK}(s:au G H)(sH:au H Hc)(lg:H l=none)(hd:∀ y ∈ d,0<=y)(hl:Hc l=some (.lst (d.map vI)))(h2:Hc p2=none)(k:Kv K G H (.tp [aU d,tn]) Q):Q (.ref p2) (upd Hc p2 (.tup [.ref l,.aH])):=by
 have e:d.map vI=d.map V.int:=ma fun y hy=>kK (hd y hy)
 rw[e]at hl;have n2:p2 ≠ l:=fun e=>by rw[e,hl]at h2;cases h2
 have sF:au H (upd Hc p2 (.tup [.ref l,.aH])):=sH.trans (.new h2);have ow:aE K G (upd Hc p2 (.tup [.ref l,.aH])) (d.map fun n=>.fz (di n)) (d.map V.int) []:=by
  have:=bC.jK (K:=K) (G:=G) (H:=upd Hc p2 (.tup [.ref l,.aH])) (rD (ns:=d));rw[gz]at this;exact this
 refine k (.ref p2) G _ [p2,l] ⟨au.refl _,sF,s.trans sF,fun a h h'=>absurd h h'⟩ ⟨p2,_,[l],rfl,bO,⟨.ref l,_,[l],[],rfl,rfl,⟨l,_,[],rfl,by rw[aQ (Ne.symm n2)];exact hl,ow,rfl⟩,.aH,_,[],[],rfl,rfl,⟨rfl,rfl,rfl⟩,rfl,rfl⟩,rfl⟩ ⟨fun a ha=>?_,fun a ha=>?_,?_⟩
 ·rcases gr.mp ha with rfl | ha
  ·exact sH.free h2
  ·rw[rf.mp ha];exact lg
 ·rcases gr.mp ha with rfl | ha
  ·exact s.free (sH.free h2)
  ·rw[rf.mp ha];exact s.free lg
 ·simp[n2]
theorem Nj {α:Type}{K:Frag}{G H:Hp}{g : α->V}:∀ {o:List α} {xs:List V} {fq:List Addr},aE K G H (o.map fun n=>.fz (.fl (g n))) xs fq->xs=o.map g/\fq=[]
 |[],_,_,h=>h
 |n::o,xs,fq,⟨v,r,f1,f2,h1,h2,h3,h4⟩=>by
  obtain⟨rfl,h5⟩:=h3;obtain⟨e1,e2⟩:=Nj h4;subst h1 h2 e1 e2;exact⟨by rw[aO h5];rfl,rfl⟩
abbrev jO:Stmt:=top 3
theorem oe:aZ ["counts", "may", "must", "nothing", "deal", "asker", "seen", "thing"] ["counts", "may", "must"] (aq jO):=bt
theorem VW {f f1 f2:Addr}{fd aI fd2:FuncData}{k:Nat}(F:aV K "looked_for" "looked_for" jO f fd)(T:Txt mg)(Wi:Kn P w K mg base ak (k+8) "give_thing" f1 aI ["counts", "may", "deal", "asker", "seen"] (DP K 7))(W9:Kn P w K mg base ak (k+8) "deal_out" f2 fd2 ["may", "must", "deal", "thing", "seen"] (Er K 7)):aJ P w K mg base ak (k+9) f fd ["counts", "may", "must"] (spT K Qy):=by
 refine F.ok oe (fun vs H Q E h=>by obtain⟨_,_,_,_,hv,⟨_,_,_,_,rfl,_⟩,_⟩:=h;exact hv.length.symm) fun bg A outer s H vs Q E hr h=>?_
 obtain⟨G,dd,t,fm,mM,⟨c,may,ai,lk,rfl,rfl⟩,fin⟩:=h;obtain⟨vc,r1,rfl,hc,vm,r2,rfl,lz,vu,r3,rfl,GZ,rfl⟩:=mM;have big : 1000<sizeLine:=by decide
 have A6:=lk.io.A6;have n6:=lk.io.n6;obtain⟨zM,x2,y2⟩:∃ τ,(∀ i,PS ((cC P w K mg base ["counts", "may", "must", "nothing", "deal", "asker", "seen", "thing"] "looked_for" (aq jO) f (k+8)).cx i) ((aM jO).getD 1 (.Pass ⟨0,0,0,0⟩)) τ)/\∀ D σ G H,au G H->cj K G [none,some (.fz (.lst (may.map dis))),none,some (ti c.length),none,none,none,none] σ->(∀ v G' H' fq,Step G H G' H'->Ow K G' H' (.ow (may.map fun r=>.fz (.fl (vI (if r.contains (c.length:Int)then (c.length:Int)else -1))))) v fq->Nw H G' fq->D.nx (σ.set 4 (some v)) H')->τ D σ H :=
  aaZ 4 (j7 (own:=["some"]) (fr:=[3]) may dis (fun r=>.fz (.fl (vI (if r.contains (c.length:Int)then (c.length:Int)else -1)))) (bR (ae 1 rfl) rfl) (bJ 0 (fun _=>by show List.Nodup (["some", "nothing"]:List Str);decide)) (by decide) (by omega) (fun r hr=>⟨_,rfl,by
   exact ab0 (yu (ae 1 rfl) (ae 0 rfl) rfl (by with_unfolding_all rfl)) (fun h=>Ev.to (ae 1 rfl) (by rw[lp h,kK (by omega)])) (fun h=>Ev.to OT (by rw[mf (by rw[h];decide),sx (by omega)]))⟩) (fun dd=>by rcases dd with _ | ⟨_,_⟩<;>rfl)) (fun i=>bV) (fun _=>oe.nd)
 refine⟨_,eY (oK (i:=3) oe.nd rfl (by first | exact Or.inl rfl | exact Or.inr rfl) (oS (F:=cC P w K mg base ["counts", "may", "must", "nothing", "deal", "asker", "seen", "thing"] "looked_for" (aq jO) f (k+8)) ⟨bg,A,outer,s,H,E,hr⟩)) (eY (x2 ⟨bg,A,outer,s,H,E,hr⟩)
  (eY (m7 aiZ rfl (LV (by rfl) T.gL (aX (oS (F:=cC P w K mg base ["counts", "may", "must", "nothing", "deal", "asker", "seen", "thing"] "looked_for" (aq jO) f (k+8)) ⟨bg,A,outer,s,H,E,hr⟩) cu)) (gK (i:=5) oe.nd rfl (by first | exact Or.inl rfl | exact Or.inr rfl))
   (eY (oK (i:=6) oe.nd rfl (by first | exact Or.inl rfl | exact Or.inr rfl) MO)
   (fB (nq (PW.pt (uD (Dg (aam (oR uh (pv 4) (pv 5) (fun _ _=>rfl))) rfl) (xx (Dh (uC (sI Wi hr (by rfl) (aX (pv 0) (aX (pv 1) (aX (pv 4) (aX (pv 5) (aX (pv 6) cu))))))))))) (fB (jT (m8 (aX x5 (aX (m8 (aX OA (aX (om (Li rfl) (by rfl) T.xg wM (aX (pv 6) cu)) cu))) cu))))) oA))))
  (eY (m7 aiZ rfl (rM (pv 2)) (gK (i:=7) oe.nd rfl (by first | exact Or.inl rfl | exact Or.inr rfl))
   (fB (Mz aiZ (uO (F:=cC P w K mg base ["counts", "may", "must", "nothing", "deal", "asker", "seen", "thing"] "looked_for" (aq jO) f (k+8)) ⟨bg,A,outer,s,H,E,hr⟩)
    (eY (oK (i:=6) oe.nd rfl (by first | exact Or.inl rfl | exact Or.inr rfl) MO)
    (fB (nq (Dh (uC (sI W9 hr (by rfl) (aX (pv 1) (aX (pv 2) (aX (pv 4) (aX (pv 7) (aX (pv 6) cu)))))))) (fB (jT (m8 (aX x5 (aX (m8 (aX OA (aX (om (Li rfl) (by rfl) T.xg wM (aX (pv 6) cu)) cu))) cu))))) oA))))))
  (fB (jT (m8 (aX (pv 4) (aX x5 cu)))))))),?_⟩
 show je _ _ _ [some vc,some vm,some vu,none,none,none,none,none] H;obtain⟨lu,xu,rfl,G7,TF⟩:=GZ;have:=lK TF;subst this;have GZ:Hv K G (dis ai) (.ref lu):=⟨lu,_,rfl,G7,TF⟩
 refine Ee (ρ:=[some (.fz (dis c)),none,none,none,none,none,none,none]) (bS T.bQ (ae 0 rfl) (.inl rfl)) (au.refl H) (aK.gG (H:=H) (fp:=[]) ⟨_,_,[],[],rfl,rfl,⟨rfl,hc.mono fm⟩,_,_,rfl,_,_,rfl,_,_,rfl,_,_,rfl,_,_,rfl,_,_,rfl,_,_,rfl,rfl,rfl⟩) fun v1 G1 H1 fq1 s1 o1 w1=>?_
 have e1:v1=.int (c.length:Nat):=by
  have:=aO o1.2;rw[aa]at this;exact this
 subst e1;dsimp only[cO,List.set];refine y2 _ _ H1 H1 (au.refl _) (aK.gG (H:=H1) (fp:=[]) ⟨_,_,rfl,_,_,[],[],rfl,rfl,⟨rfl,lz.mono (fm.trans s1.h)⟩,_,_,rfl,_,_,[],[],rfl,rfl,⟨rfl,rfl,rfl⟩,_,_,rfl,_,_,rfl,_,_,rfl,_,_,rfl,rfl,rfl⟩) fun v2 G2 H2 zD s2 o2 w2=>?_
 obtain⟨ld,xs,fx,rfl,Tz,ox,rfl⟩:=o2;obtain⟨rfl,rfl⟩:=Nj ox;have y3:H ld=none:=s1.h.free (w2.n ld (.head _));have TH:au H H2:=s1.h.trans s2.h;have FE:H2 ld=some (.lst ((eP c.length may).map vI)):=by
  unfold eP;rw[gz];exact Tz
 have TJ:G ld=none:=fm.free y3;show je _ _ _ [some vc,some vm,some (.ref lu),some (.int (c.length:Nat)),some (.ref ld),none,none,none] H2;refine Ee (ρ:=[none,some (.fz (.lst (may.map dis))),none,none,none,none,none,none]) (bS T.bQ (ae 1 rfl) (.inl rfl)) (au.refl H2) (aK.gG (H:=H2) (fp:=[]) ⟨_,_,rfl,_,_,[],[],rfl,rfl,⟨rfl,lz.mono (fm.trans TH)⟩,_,_,rfl,_,_,rfl,_,_,rfl,_,_,rfl,_,_,rfl,_,_,rfl,rfl,rfl⟩) fun vl G3 H3 Gw s3 o3 w3=>?_
 have en:((may.map dis).length:Int)=may.length:=by rw[aa]
 refine⟨_,by rw[aO o3.2],by rw[en];omega,by rw[en];omega,?_⟩;rw[en,zw];have sH3:au H H3:=TH.trans s3.h;have sX:Kv K G H (yZ c may ai (dh c may ((ah may.length).drop 0) (eP c.length may))) Q:=fin;have nY:=Oi lk.io lk.c0;rw[show dh c may (ah may.length) (eP c.length may)=dh c may ((ah may.length).drop 0) (eP c.length may)from rfl]at nY;generalize vh:dh c may ((ah may.length).drop 0) (eP c.length may)=res at sX nY;refine Xp (fun i σ Hc=>∃ o5 o6 d',σ=[some vc,some vm,some (.ref lu),some (.int (c.length:Nat)),some (.ref ld),o5,o6,none]/\au H Hc/\Hc ld=some (.lst (d'.map vI))/\jv c may d'/\dh c may ((ah may.length).drop i) d'=res)
  ⟨none,none,_,rfl,sH3,s3.h _ _ FE,BW lk.io lk.c0,vh⟩ ?_ ?_
 ·rintro i σ Hc hi ⟨o5,o6,d',rfl,jN,hd,qd,aR⟩;have e9:(ah may.length).drop i=(0+(i:Int))::(ah may.length).drop (i+1):=by
   rw[HT (by rw[bM];exact hi)];congr 1;unfold ah;rw[TM,List.getElem_range]
  rw[e9]at aR;have a0:(0:Int)<=0+(i:Int):=by omega
  have a1 : 0+(i:Int)<may.length:=by omega
  generalize (0+(i:Int))=a at aR a0 a1 ⊢;dsimp only[cO,List.set];intro ls lD;dsimp only[cO,List.set];have Aa:au H (upd Hc ls (.dK [])):=jN.trans (.new lD);have wg:ld ≠ ls:=fun e=>by rw[<- e,hd]at lD;cases lD
  have vq:H ls=none:=jN.free lD;have gs:GS ld ls (upd Hc ls (.dK [])) d' []:=⟨by rw[aQ wg];exact hd,bO⟩
  generalize upd Hc ls (.dK [])=H4 at Aa gs;refine⟨_,rfl,_,rfl,ld,_,_,vI (af d' a),rfl,rfl,aL.of gs.d,jB vI a0 (by rw[qd.g.dl];exact a1),_,rfl,?_⟩;unfold dh at aR;by_cases hn:af d' a<0
  ·rw[lp hn]at aR;rw[show decide (vI (af d' a)=V.aH)=true from u4 (sx hn)];refine gx ?_;refine⟨_,rfl,_,rfl,_,rfl,_,rfl,_,rfl,?_⟩;dsimp only[dO,ajz,WS];have nn:=qd.nn a0 a1 hn;have kp:=yk lk.io 7 d' [] a qd.g a0 a1 (fun z=>nomatch z) nn;have gv:=qd.give lk.io a0 a1 hn;refine⟨c,may,vc,vm,ld,ls,G,d',[],a,rfl,fm.trans Aa,hc,lz,fun b hb=>?_,wg,gs,lk.io,qd.g,a0,a1,(fun z=>nomatch z),nn,by rw[ajj];omega,fun H5 md5 g5=>⟨_,rfl,?_⟩⟩
   ·rcases gr.mp hb with rfl | hb
    ·exact TJ
    ·rw[rf.mp hb];exact fm.free vq
   have TK:au H H5:=xX Aa (fun b hb=>by
    rcases gr.mp hb with rfl | hb
    ·exact y3
    ·rw[rf.mp hb];exact vq) md5
   generalize cw c may 7 d' [] a=r at *;by_cases hb:r.1=true
   ·rw[hb];rw[lp hb]at aR;exact eR ⟨_,_,r.2.1,rfl,TK,g5.d,(gv hb).1,aR⟩
   ·have dQ:r.1=false:=by simpa using hb
    rw[dQ];rw[mf hb]at aR;refine gx ?_;have sl:=lO kp.ok.sr kp.ok.sn;refine⟨_,rfl,ls,r.2.2,rfl,g5.s,by omega,fun l ms hl pm pw=>⟨by show 2<=sizeLine;omega,fun p1 zS=>⟨by show 2<=sizeLine;omega,fun p2 pX=>?_⟩⟩⟩;unfold yZ at sX;rw[<- aR,mf hb]at sX;exact Mu fm TK pm pw hl zS pX sX
  ·rw[mf hn]at aR;rw[show decide (vI (af d' a)=V.aH)=false from tw (by rw[kK (by omega)];exact fun z=>nomatch z)];exact eR (eR ⟨_,_,d',rfl,Aa,gs.d,qd,aR⟩)
 ·rintro σ Hc ⟨o5,o6,d',rfl,jN,hd,qd,aR⟩;rw[ajV (by rw[bM];exact br _)]at aR;unfold dh at aR;rw[<- aR]at nY sX;have ek:gX c may d':=nY rfl;have fin2:Kv K G H (vp (fi c may ai (ai.drop 0) d')) Q:=sX;generalize acj:fi c may ai (ai.drop 0) d'=Rc at fin2;refine L4 (j:=2) (a:=lu) (xs:=ai.map V.int) rfl ((fm.trans jN).seq G7) (fun i σ Hc=>∃ o5 o6 o7 d',σ=[some vc,some vm,some (.ref lu),some (.int (c.length:Nat)),some (.ref ld),o5,o6,o7]/\au H Hc/\Hc ld=some (.lst (d'.map vI))/\gX c may d'/\fi c may ai (ai.drop i) d'=Rc)
   ⟨_,_,_,d',rfl,jN,hd,ek,acj⟩ (fun i σ Hc _ h=>by obtain⟨_,_,_,_,_,m,_⟩:=h;exact(fm.trans m).seq G7) ?_ ?_
  ·rintro i v σ Hc hv ⟨o5,o6,o7,d',rfl,jN,hd,ek,aR⟩;obtain⟨x,hx,rfl⟩:=dH hv;have lA:=mT hx;have mR:=lk.mu x lA;have e9:ai.drop i=x::ai.drop (i+1):=by
    obtain⟨h1,h2⟩:=ir.mp hx;rw[HT h1,h2]
   rw[e9]at aR;unfold fi at aR;dsimp only[cO,List.set];refine⟨fun m σ Hc=>∃ o5 o6 d',σ=[some vc,some vm,some (.ref lu),some (.int (c.length:Nat)),some (.ref ld),o5,o6,some (.int x)]/\au H Hc/\Hc ld=some (.lst (d'.map vI))/\gX c may d'/\m=(af c x-d'.count x).toNat/\(if(gB c may ai x m d').1=true then fi c may ai (ai.drop (i+1)) (gB c may ai x m d').2.1 else gB c may ai x m d')=Rc,⟨_,_,_,d',rfl,jN,hd,ek,rfl,aR⟩,?_⟩;rintro m σ Hc ⟨o5,o6,d',rfl,jN,hd,ek,hm,aR⟩;refine yB (ρ:=[some (.fz (dis c)),none,none,none,some (.fz (.lst ((d'.map vI).map .fl))),none,none,some (ti x)]) (Et.to (jW (Mf (v:=.int x) (ae 4 rfl) rfl (ae 7 rfl)) (dU (d:=di (af c x)) (ae 0 rfl) (ae 7 rfl) rfl (jB di mR.1 mR.2))) (q:=decide ((d'.count x:Int)<af c x)) (by rw[Cr mR.1])) (au.refl Hc) (aK.gG (H:=Hc) (fp:=[]) ⟨_,_,[],[],rfl,rfl,⟨rfl,hc.mono (fm.trans jN)⟩,_,_,rfl,_,_,rfl,_,_,rfl,_,_,[],[],rfl,rfl,⟨rfl,ld,_,rfl,aL.of hd,yl d'⟩,_,_,rfl,_,_,rfl,_,_,[],[],rfl,rfl,⟨rfl,rfl,rfl⟩,rfl,rfl⟩) fun G6 H6 TL=>?_
   have G8:au H H6:=jN.trans TL.h;have G9:=TL.h _ _ hd;by_cases aT:(d'.count x:Int)<af c x
   ·rw[u4 aT];obtain⟨m',rfl⟩:∃ m',m=m'+1:=⟨m-1,by omega⟩
    unfold gB at aR;refine gx ?_;refine⟨_,fun aB H' hN=>⟨m',akd _,hN⟩,?_⟩;intro ls lD;dsimp only[cO,List.set];have Hd:au H (upd H6 ls (.dK [])):=G8.trans (.new lD);have wg:ld ≠ ls:=fun e=>by rw[<- e,G9]at lD;cases lD
    have vq:H ls=none:=G8.free lD;have gs:GS ld ls (upd H6 ls (.dK [])) d' []:=⟨by rw[aQ wg];exact G9,bO⟩
    generalize upd H6 ls (.dK [])=H7 at Hd gs;refine⟨_,rfl,_,rfl,_,rfl,_,rfl,_,rfl,?_⟩;dsimp only[dO,ajz,WS];have kp:=C0 (may:=may) lk.mu 7 d' [] x (ek.ot lk.io) mR.1 mR.2 (fun z=>nomatch z);have gv:=ek.out lk.io lk.mu lA aT;refine⟨c.length,may,ai,vm,.ref lu,ld,ls,G,d',[],x,rfl,fm.trans Hd,lz,GZ,fun b hb=>?_,wg,gs,A6,n6,lk.mu,ek.ot lk.io,mR.1,mR.2,(fun z=>nomatch z),by rw[ajj];omega,fun H8 md8 g8=>⟨_,rfl,?_⟩⟩
    ·rcases gr.mp hb with rfl | hb
     ·exact TJ
     ·rw[rf.mp hb];exact fm.free vq
    have TN:au H H8:=xX Hd (fun b hb=>by
     rcases gr.mp hb with rfl | hb
     ·exact y3
     ·rw[rf.mp hb];exact vq) md8
    generalize outF may ai 7 d' [] x=r at *;by_cases hb:r.1=true
    ·rw[hb];rw[lp hb]at aR;exact eR ⟨_,_,r.2.1,rfl,TN,g8.d,(gv hb).1,by rw[(gv hb).2.1];omega,aR⟩
    ·have dQ:r.1=false:=by simpa using hb
     rw[dQ];rw[mf hb,mf hb]at aR;refine gx ?_;have sl:=lO kp.ok.sr kp.ok.sn;refine⟨_,rfl,ls,r.2.2,rfl,g8.s,by omega,fun l ms hl pm pw=>⟨by show 2<=sizeLine;omega,fun p1 zS=>⟨by show 2<=sizeLine;omega,fun p2 pX=>?_⟩⟩⟩;unfold vp at fin2;rw[<- aR,mf hb]at fin2;exact Mu fm TN pm pw hl zS pX fin2
   ·rw[tw aT];obtain rfl:m=0:=by omega
    unfold gB at aR;exact eR ⟨_,_,_,d',rfl,G8,G9,ek,aR⟩
  ·rintro σ Hc ⟨o5,o6,o7,d',rfl,jN,hd,ek,aR⟩;rw[aa,ajA]at aR;unfold fi at aR;unfold vp at fin2;rw[<- aR,lp rfl]at fin2;refine⟨_,rfl,by show 2<=sizeLine;omega,fun p2 pX=>?_⟩;exact Y2 fm jN y3 (fun y hy=>((ek.ot lk.io).dr y hy).1) hd pX fin2
def yE (r:Nat×LI):Tr:=if r.1=0 then aU r.2 else tn
def ack (r:Nat×LI):Tr:=if r.1=0 then tn else .tp [tx (if r.1=1 then "askers" else "things"),aU r.2]
theorem Y3 (c:LI)(may:LL)(ai:LI):Es c may ai=.tp [yE (i9 c may ai),ack (i9 c may ai)]:=by
 unfold Es yZ vp i9;generalize dh c may (ah may.length) (eP c.length may)=g;by_cases h:g.1=true
 ·rw[lp h,lp h];generalize fi c may ai ai g.2.1=o;by_cases h2:o.1=true
  ·rw[lp h2,lp h2];rfl
  ·rw[mf h2,mf h2];rfl
 ·rw[mf h,mf h];rfl
def Oj (dd:List Dv)(t:Tr):Prop:=∃ c may ai,Fq c may ai/\dd=[dis c,.lst (may.map dis),dis ai]/\t=yE (i9 c may ai)
abbrev rq:Stmt:=top 4
theorem Xa:aZ ["counts", "may", "must"] ["counts", "may", "must"] (aq rq):=bt
theorem Xb {f f1:Addr}{fd aI:FuncData}{k:Nat}(F:aV K "deal_of" "deal_of" rq f fd)(T:Txt mg)(Wj:Kn P w K mg base ak (k+9) "looked_for" f1 aI ["counts", "may", "must"] (spT K Qy)):aJ P w K mg base ak (k+10) f fd ["counts", "may", "must"] (spT K Oj):=by
 refine bD F.d Xa (fun dd t h=>by obtain⟨_,_,_,_,rfl,_⟩:=h;rfl) fun dd t h=>?_
 obtain⟨c,may,ai,lk,rfl,rfl⟩:=h;refine⟨_,.inl rfl,?_⟩;exact aF (bL (Ev.s (aa6 (n:=0) (aG Wj (br _) (aj (ae 0 rfl) (aj (ae 1 rfl) (aj (ae 2 rfl) aw))) ⟨c,may,ai,lk,rfl,(Y3 c may ai).symm⟩) av rfl)))
end
section
variable {P:Program}{w:World}{K:Frag}{mg:Str->Option Value}{base:Heap}
def iK (L:LL)(k:Int):Int:=(L.map fun r=>af r k).sum
structure bX (c:LI) (L:LL) (R:Int):Prop where
 n6:c.length<=6
 A6:L.length<=6
 ne:L ≠ []
 c9:∀ x ∈ c,0<=x/\x<=9
 row:∀ r ∈ L,r.length=c.length+1/\(∀ x ∈ r,0<=x)/\r.sum=R
 col:∀ k:Int,0<=k->k<c.length->iK L k<=af c k*R
def cz (L:LL):LL:=L.map fun r=>(ah r.length).filter fun x=>decide (0<af r x)
def bq (c:LI)(L:LL)(R k:Int):Int:=af c k*R-iK L k
def nh (c:LI)(L:LL)(R:Int):LI:=(ah c.length).filter fun k=>decide (bq c L R k=0)
theorem getD_map' {α β:Type}(f:List α->List β)(e:f []=[])(l:List (List α))(n:Nat):(l.map f).getD n []=f (l.getD n []):=by
 rw[ba,ba,ee];cases l[n]? with
 |none=>exact e.symm
 |some v=>rfl
theorem aad (L:LL)(a:Int):(cz L).getD a.toNat []=(ah (L.getD a.toNat []).length).filter fun x=>decide (0<af (L.getD a.toNat []) x):=by
 unfold cz;rw[getD_map' (fun r=>(ah r.length).filter fun x=>decide (0<af r x)) rfl]
theorem x3 {L:LL}{a x:Int}:x ∈ (cz L).getD a.toNat [] ↔ (0<=x/\x<(L.getD a.toNat []).length)/\0<af (L.getD a.toNat []) x:=by
 rw[aad,AM,aW,Na]
theorem bX.lk {c:LI}{L:LL}{R:Int}(h:bX c L R):Fq c (cz L) (nh c L R):=by
 refine⟨⟨h.n6,by unfold cz;rw[aa];exact h.A6,fun r hr=>?_⟩,fun x hx=>(h.c9 x hx).1,fun y hy=>aW.mp (AM.mp hy).1⟩;obtain⟨r0,h0,rfl⟩:=i4.mp hr;have hl:=(h.row r0 h0).1;have n6:=h.n6;refine⟨zd (IS _ _) (by rw[bM];omega),fun x hx=>?_⟩;have:=aW.mp (AM.mp hx).1;omega
theorem Ol (r:LI):((ah r.length).map (af r)).sum=r.sum:=by
 have:=Cw r 0;exact congrArg List.sum this.symm
theorem Cy {f:Int->Int}{p:Int->Bool}:∀ {l:LI},(∀ x ∈ l,p x=false->f x=0)->((l.filter p).map f).sum=(l.map f).sum
 |[],_=>rfl
 |x::l,h=>by
  have ih:=Cy (f:=f) (p:=p) (l:=l) fun y hy=>h y (.tail _ hy)
  rw[Lm,i8,ue];cases hp:p x with
  |true=>rw[lp rfl,i8,ue,ih]
  |false=>rw[mf (by decide),ih,h x (.head _) hp];omega
theorem oi {f:Int->Int}:∀ {l:LI},(∀ x ∈ l,0<=f x)->0<=(l.map f).sum
 |[],_=>YE _
 |x::l,h=>by
  have:=oi (f:=f) (l:=l) fun y hy=>h y (.tail _ hy)
  have:=h x (.head _);rw[i8,ue];omega
theorem C1 {f:Int->Int}:∀ {S T:LI},S.Nodup->(∀ x ∈ S,x ∈ T)->(∀ x ∈ T,0<=f x)->(S.map f).sum<=(T.map f).sum
 |[],T,_,_,h=>oi h
 |x::S,T,nd,hs,h=>by
  have n2:=BB.mp nd;have hx:=hs x (.head _);have ih:=C1 (f:=f) (S:=S) (T:=T.erase x) n2.2 (fun y hy=>(akk (show y ≠ x from fun e=>n2.1 (e ▸ hy))).mpr (hs y (.tail _ hy))) (fun y hy=>h y (List.mem_of_mem_erase hy));rw[Ni (List.perm_cons_erase hx),i8,i8,ue,ue];omega
theorem xq {f g:Int->Int}:∀ N:LI,(N.map fun x=>f x+g x).sum=(N.map f).sum+(N.map g).sum
 |[] => rfl
 |x::N=>by
  rw[i8,i8,i8,ue,ue,ue,xq N];omega
theorem Cz:∀ N:LI,(N.map fun _=>(0:Int)).sum=0
 |[] => rfl
 |_::N=>by rw[i8,ue,Cz N];rfl
theorem CA {g:Int->Int->Int}(N:LI):∀ S:LI,(S.map fun b=>(N.map (g b)).sum).sum=(N.map fun x=>(S.map fun b=>g b x).sum).sum
 |[] => (Cz N).symm
 |b::S=>by
  rw[i8,ue,CA N S,<- xq];rfl
theorem Bx (R:Int):∀ S:LI,(S.map fun _=>R).sum=S.length*R
 |[] => by rw[ai5,List.sum_nil];simp
 |_::S=>by
  rw[i8,ue,Bx R S,AN,ajQ,SI];show R+_=_+1*R;omega
theorem xt {f:Int->Int}(R:Int):∀ S:LI,(S.map fun x=>f x*R).sum=(S.map f).sum*R
 |[] => by rw[ai5,ai5,List.sum_nil,LG]
 |_::S=>by
  rw[i8,i8,ue,ue,xt R S,SI]
theorem CB {f g:Int->Int}:∀ {N:LI},(∀ k ∈ N,f k=g k)->(N.map f).sum=(N.map g).sum:=fun {N} h=>by rw[ma h]
theorem BX (L:LL)(k:Int):((ah L.length).map fun a=>af (L.getD a.toNat []) k).sum=iK L k:=by
 have h:=Cw L [];unfold iK;have:(L.map fun r=>af r k)=((ah L.length).map fun a=>L.getD a.toNat []).map fun r=>af r k:=by rw[<- h]
 rw[this,gz];rfl
theorem Pz {r:LI}(h:∀ x ∈ r,0<=x)(x:Int) : 0<=af r x:=by
 unfold af;rw[ba];cases e:r[x.toNat]? with
 |none=>exact YE _
 |some y=>exact h y (mT e)
theorem bX.ig {c:LI}{L:LL}{R:Int}(h:bX c L R){a:Int}(a0 : 0<=a)(a1:a<L.length):(L.getD a.toNat []).length=c.length+1/\(∀ x ∈ L.getD a.toNat [],0<=x)/\(L.getD a.toNat []).sum=R:=h.row _ (uv a0 a1)
theorem bX.ge {c:LI}{L:LL}{R:Int}(h:bX c L R)(a x:Int) : 0<=af (L.getD a.toNat []) x:=by
 refine Pz (fun y hy=>?_) x;rw[ba]at hy;cases e:L[a.toNat]? with
 |none=>rw[e]at hy;cases hy
 |some r =>
  rw[e]at hy;exact(h.row r (mT e)).2.1 y hy
theorem bX.abA {c:LI}{L:LL}{R:Int}(h:bX c L R)(R0 : 0<R){S:LI}(s:mz c (cz L) S):False:=by
 have ml:(cz L).length=L.length:=by unfold cz;rw[aa]
 have hs:=s.sum;have nN:((ah c.length).filter fun k=>S.any fun b=>((cz L).getD b.toNat []).contains k).Nodup:=(oh _).filter _;have hk:∀ k ∈ (ah c.length).filter (fun k=>S.any fun b=>((cz L).getD b.toNat []).contains k),0<=k/\k<c.length:=fun k hk=>aW.mp (AM.mp hk).1
 have hr:∀ b ∈ S,(((ah c.length).filter fun k=>S.any fun b=>((cz L).getD b.toNat []).contains k).map (af (L.getD b.toNat []))).sum=R:=fun b hb=>by
  have rg:=s.rg b hb;have ro:=h.ig rg.1.1 (by rw[<- ml];exact rg.1.2);rw[Cy fun x hx hp=>?_]
  ·rw[<- ro.2.2,<- Ol (L.getD b.toNat []),ro.1];have:ah (c.length+1)=ah c.length++[(c.length:Int)]:=by
    unfold ah;rw[ako,Cs];show _++[0+(c.length:Int)]=_;rw[Zp]
   rw[this,Cs,ai4];have z:af (L.getD b.toNat []) c.length=0:=by
    have g:=h.ge b c.length;have:¬ 0<af (L.getD b.toNat []) c.length:=fun z=>rg.2 (x3.mpr ⟨⟨by omega,by rw[ro.1];omega⟩,z⟩)
    omega
   show _=_+([af (L.getD b.toNat []) c.length]).sum;rw[akG,z];omega
  ·have g:=h.ge b x;have iN:=aW.mp hx;have:¬ 0<af (L.getD b.toNat []) x:=fun z=>by
    have hm:x ∈ (cz L).getD b.toNat []:=x3.mpr ⟨⟨iN.1,by rw[ro.1];omega⟩,z⟩;have:(S.any fun b=>((cz L).getD b.toNat []).contains x)=true:=Sm.mpr ⟨b,hb,by simpa using hm⟩;rw[this]at hp;cases hp
   omega
 generalize (ah c.length).filter (fun k=>S.any fun b=>((cz L).getD b.toNat []).contains k)=N at hs nN hk hr;have e1:(S.map fun b=>(N.map (af (L.getD b.toNat []))).sum).sum=S.length*R:=by rw[CB hr,Bx]
 have e2:(S.map fun b=>(N.map (af (L.getD b.toNat []))).sum).sum<=((ah L.length).map fun b=>(N.map (af (L.getD b.toNat []))).sum).sum:=C1 s.nd (fun b hb=>aW.mpr (by rw[<- ml];exact(s.rg b hb).1)) fun b _=>oi fun x _=>h.ge b x
 rw[CA N (ah L.length)]at e2;have e3:(N.map fun x=>((ah L.length).map fun b=>af (L.getD b.toNat []) x).sum).sum<=(N.map fun x=>af c x*R).sum:=uK fun x hx=>by
  rw[BX];exact h.col x (hk x hx).1 (hk x hx).2
 rw[xt]at e3;have e4:(N.map (af c)).sum*R<S.length*R:=YA hs R0;omega
theorem bX.abB {c:LI}{L:LL}{R:Int}(h:bX c L R)(R0 : 0<R){S:LI}(s:kT c (cz L) (nh c L R) S):False:=by
 have ml:(cz L).length=L.length:=by unfold cz;rw[aa]
 have hs:=s.sum;have hk:∀ k ∈ S,(0<=k/\k<(c.length:Int))/\af c k*R=iK L k:=fun k hk=>by
  obtain⟨q1,q2⟩:=AM.mp (s.sub k hk);have:=Cn q2;unfold bq at this;exact⟨aW.mp q1,by omega⟩
 rw[wU (cz L) [],ml]at hs;have e1:(S.map (af c)).sum*R=((ah L.length).map fun b=>(S.map (af (L.getD b.toNat []))).sum).sum:=by
  rw[CA S (ah L.length),<- xt];exact CB fun k eG=>by rw[(hk k eG).2,BX]
 have e2:((ah L.length).map fun b=>(S.map (af (L.getD b.toNat []))).sum).sum=(((ah L.length).filter fun a=>((cz L).getD a.toNat []).any fun y=>S.contains y).map fun b=>(S.map (af (L.getD b.toNat []))).sum).sum:=by
  refine(Cy fun b hb hp=>?_).symm;have dQ:=aW.mp hb;have ro:=h.ig dQ.1 dQ.2;rw[CB (g:=fun _=>0) fun k eG=>?_,Cz];have g:=h.ge b k;have:¬ 0<af (L.getD b.toNat []) k:=fun z=>by
   have hm:k ∈ (cz L).getD b.toNat []:=x3.mpr ⟨⟨(hk k eG).1.1,by rw[ro.1];have:=(hk k eG).1.2;omega⟩,z⟩;have:(((cz L).getD b.toNat []).any fun y=>S.contains y)=true:=Sm.mpr ⟨k,hm,by simpa using eG⟩;rw[this]at hp;cases hp
  omega
 have e3:(((ah L.length).filter fun a=>((cz L).getD a.toNat []).any fun y=>S.contains y).map fun b=>(S.map (af (L.getD b.toNat []))).sum).sum<=(((ah L.length).filter fun a=>((cz L).getD a.toNat []).any fun y=>S.contains y).map fun _=>R).sum:=uK fun b hb=>by
  have dQ:=aW.mp (AM.mp hb).1;have ro:=h.ig dQ.1 dQ.2;rw[<- ro.2.2,<- Ol (L.getD b.toNat [])];exact C1 s.nd (fun k eG=>aW.mpr (by rw[ro.1];have:=(hk k eG).1;omega)) fun x _=>h.ge b x
 rw[Bx]at e3;have e4:=YA hs R0;omega
def bN (c:LI)(L:LL)(R:Int):LI:=(i9 c (cz L) (nh c L R)).2
theorem bX.y4 {c:LI}{L:LL}{R:Int}(h:bX c L R)(R0 : 0<R):DQ c (cz L) (nh c L R) (bN c L R)/\yE (i9 c (cz L) (nh c L R))=aU (bN c L R):=by
 have lk:=h.lk;rcases aac lk.io lk.c0 lk.mu with⟨q,g⟩ | ⟨_,g⟩ | ⟨_,g⟩
 ·refine⟨g,?_⟩;unfold yE;rw[lp q];rfl
 ·exact(h.abA R0 g.u).elim
 ·exact(h.abB R0 g.u).elim
def bG (c d:LI)(k:Int):Int:=af c k-(d.count k:Int)
def fF (c:LI)(L:LL)(R:Int)(d:LI):LI:=((ah L.length).map fun a=>2520*af (L.getD a.toNat []) (af d a))++((ah c.length).filter fun k=>decide (0<bG c d k)).map fun k=>bq c L R k*(2520 / bG c d k)
def wF (c:LI)(L:LL)(R:Int)(d:LI):Int×Int:=fW 2520 (j8 (fF c L R d))
structure He (c:LI) (L:LL) (R:Int) (d:LI) (p q:Int):Prop where
 p0 : 0<p
 q0 : 0<q
 q9:q<=9
 ent:∀ a:Int,0<=a->a<L.length->p<=af (L.getD a.toNat []) (af d a)*q
 sp:∀ k:Int,0<=k->k<c.length->p*bG c d k<=bq c L R k*q
 hit:(∃ a:Int,0<=a/\a<L.length/\p=af (L.getD a.toNat []) (af d a)*q)\/∃ k:Int,0<=k/\k<c.length/\0<bG c d k/\p*bG c d k=bq c L R k*q
theorem uw {u:Int}(u0 : 0<u)(u9:u<=9) : 2520 / u*u=2520/\0<2520 / u:=by
 have key:∀ m:Fin 10,0<m.val->(2520:Int) / (m.val:Nat)*(m.val:Nat)=2520/\0<(2520:Int) / (m.val:Nat):=by decide
 have e:u=(u.toNat:Nat):=(Int.toNat_of_nonneg (ak6 u0)).symm;have h:=key ⟨u.toNat,by omega⟩ (by show 0<u.toNat;omega);rw[e];exact h
structure mB (c:LI) (L:LL) (R:Int) (d:LI):Prop where
 dl:d.length=L.length
 dr:∀ x ∈ d,0<=x/\x<=c.length
 pos:∀ a:Int,0<=a->a<L.length->(0<=af d a/\af d a<=c.length)/\0<af (L.getD a.toNat []) (af d a)
 u:∀ k:Int,0<=k->k<c.length->0<=bG c d k/\bG c d k<=9/\(bq c L R k=0->bG c d k=0)
theorem bX.Fs {c:LI}{L:LL}{R:Int}(h:bX c L R){d:LI}(g:DQ c (cz L) (nh c L R) d):mB c L R d:=by
 have ml:(cz L).length=L.length:=by unfold cz;rw[aa]
 refine⟨by rw[g.ok.dl,ml],fun x hx=>(g.ok.ot h.lk.io).dr x hx,fun a a0 a1=>?_,fun k k0 k1=>?_⟩
 ·have:=x3.mp (g.ok.mem a a0 (by rw[ml];exact a1));have ro:=h.ig a0 a1;exact⟨⟨this.1.1,by have:=this.1.2;rw[ro.1]at this;omega⟩,this.2⟩
 ·have h1:=g.ok.cnt k k0 k1;have h2:=h.c9 _ (iZ k0 k1);unfold bG;refine⟨by omega,by omega,fun z=>?_⟩;have:=g.full k (AM.mpr ⟨aW.mpr ⟨k0,k1⟩,u4 z⟩);omega
theorem PB {p q s u:Int}(q0 : 0<q)(u0 : 0<u)(co:Int.gcd p q=1)(e:p*u=s*q):q<=u:=by
 have h1:q.natAbs ∣ p.natAbs*u.natAbs:=by
  rw[<- WE,e,WE];exact Nat.dvd_mul_left _ _
 have h2:Nat.Coprime q.natAbs p.natAbs:=by
  show Nat.gcd _ _=1;rw[Nat.gcd_comm];exact co
 have h3:=Nat.le_of_dvd (by omega) (h2.dvd_of_dvd_mul_left h1);omega
theorem bX.TQ {c:LI}{L:LL}{R:Int}(h:bX c L R){d:LI}(g:mB c L R d):He c L R d (wF c L R d).1 (wF c L R d).2:=by
 have Lp:(0:Int)<L.length:=by have:=Pe.mpr h.ne;omega
 have ne:fF c L R d ≠ []:=fun z=>by
  have:(fF c L R d).length=0:=by rw[z];rfl
  unfold fF at this;rw[qr,aa,bM]at this;omega
 have kQ:∀ k:Int,0<=k->k<c.length->0<bG c d k->0<bq c L R k:=fun k k0 k1 hu=>by
  have h1:=(g.u k k0 k1).2.2;have h2:=h.col k k0 k1;have h3 : 0<=bq c L R k:=by unfold bq;omega
  rcases Zs h3 with z | z
  ·exact z
  ·have:=h1 z.symm;omega
 have mm:=M3 ne;have ml:∀ x ∈ fF c L R d,j8 (fF c L R d)<=x:=fun x hx=>N9 hx
 have hm:(∃ a:Int,(0<=a/\a<L.length)/\j8 (fF c L R d)=2520*af (L.getD a.toNat []) (af d a))\/∃ k:Int,(0<=k/\k<c.length)/\0<bG c d k/\j8 (fF c L R d)=bq c L R k*(2520 / bG c d k):=by
  unfold fF at mm ⊢;rcases wb.mp mm with z | z
  ·obtain⟨a,ha,e⟩:=i4.mp z;exact .inl ⟨a,aW.mp ha,e.symm⟩
  ·obtain⟨k,hk,e⟩:=i4.mp z;obtain⟨q1,q2⟩:=AM.mp hk;exact .inr ⟨k,aW.mp q1,Cn q2,e.symm⟩
 have l1:∀ a:Int,0<=a->a<L.length->j8 (fF c L R d)<=2520*af (L.getD a.toNat []) (af d a):=fun a a0 a1=>ml _ (nv _ (i4.mpr ⟨a,aW.mpr ⟨a0,a1⟩,rfl⟩))
 have l2:∀ k:Int,0<=k->k<c.length->0<bG c d k->j8 (fF c L R d)<=bq c L R k*(2520 / bG c d k):=fun k k0 k1 hu=>ml _ (ij _ (i4.mpr ⟨k,AM.mpr ⟨aW.mpr ⟨k0,k1⟩,u4 hu⟩,rfl⟩))
 unfold wF;generalize j8 (fF c L R d)=m at hm l1 l2;have m0 : 0<m:=by
  rcases hm with⟨a,ha,e⟩ | ⟨k,hk,hu,e⟩
  ·have:=(g.pos a ha.1 ha.2).2;omega
  ·rw[e];exact NJ (kQ k hk.1 hk.2 hu) (uw hu (g.u k hk.1 hk.2).2.1).2
 have cr:=gg (W:=2520) (s:=m) (by decide);have q0:=dI (W:=2520) (s:=m) (by decide);have co:=Dy (W:=2520) (s:=m) (by decide);generalize (fW 2520 m).1=p at cr co ⊢;generalize (fW 2520 m).2=q at cr q0 co ⊢;have p0 : 0<p:=by
  have : 0<m*q:=NJ m0 q0;omega
 have key:∀ k:Int,0<=k->k<c.length->0<bG c d k->m*bG c d k<=bq c L R k*2520:=fun k k0 k1 hu=>by
  have hd:=uw hu (g.u k k0 k1).2.1;have:=AL (l2 k k0 k1 hu) (show 0<=bG c d k by omega);rw[ES,hd.1]at this;exact this
 have hit:(∃ a:Int,0<=a/\a<L.length/\p=af (L.getD a.toNat []) (af d a)*q)\/∃ k:Int,0<=k/\k<c.length/\0<bG c d k/\p*bG c d k=bq c L R k*q:=by
  rcases hm with⟨a,ha,e⟩ | ⟨k,hk,hu,e⟩
  ·refine .inl ⟨a,ha.1,ha.2,?_⟩;rw[e]at cr;generalize af (L.getD a.toNat []) (af d a)=y at cr ⊢;rw[ES]at cr;omega
  ·refine .inr ⟨k,hk.1,hk.2,hu,?_⟩;have hd:=uw hu (g.u k hk.1 hk.2).2.1;have e2:m*bG c d k=bq c L R k*2520:=by rw[e,ES,hd.1]
   generalize bG c d k=u at e2 ⊢;generalize bq c L R k=s at e2 ⊢;have:p*2520*u=s*2520*q:=by
    rw[cr,BN,e2]
   have h1:p*2520*u=(p*u)*2520:=BN _ _ _;have h2:s*2520*q=(s*q)*2520:=BN _ _ _;omega
 refine⟨p0,q0,?_,fun a a0 a1=>?_,fun k k0 k1=>?_,hit⟩
 ·rcases hit with⟨a,a0,a1,e⟩ | ⟨k,k0,k1,hu,e⟩
  ·have:=PB (p:=p) (q:=q) (s:=af (L.getD a.toNat []) (af d a)) (u:=1) q0 (by decide) co (by rw[ai6];exact e);omega
  ·have:=PB q0 hu co e;have:=(g.u k k0 k1).2.1;omega
 ·have h1:=AL (l1 a a0 a1) (show 0<=q by omega);generalize af (L.getD a.toNat []) (af d a)=y at h1 ⊢;rw[ES]at h1;omega
 ·by_cases hu : 0<bG c d k
  ·have h1:=AL (key k k0 k1 hu) (show 0<=q by omega);generalize bG c d k=u at h1 ⊢;generalize bq c L R k=s at h1 ⊢;have e1:m*u*q=p*u*2520:=by
    rw[BN,<- cr,BN]
   have e2:s*2520*q=s*q*2520:=BN _ _ _;omega
  ·have:=(g.u k k0 k1).1;have e0:bG c d k=0:=by omega
   rw[e0,akH];have h2:=h.col k k0 k1;exact Nd (by unfold bq;omega) (by omega)
def ik (p q:Int)(r:LI)(x:Int):LI:=(r.map fun y=>y*q).set x.toNat (af r x*q-p)
def du (p q:Int)(L:LL)(d:LI):LL:=List.zipWith (ik p q) L d
theorem Nk {r:LI}(q x:Int):af (r.map fun y=>y*q) x=af r x*q:=by
 unfold af;rw[ba,ba,ee];cases r[x.toNat]? with
 |none=>show(0:Int)=0*q;rw[LG]
 |some v=>rfl
theorem xv {p q:Int}{r:LI}{x y:Int}(x0 : 0<=x)(y0 : 0<=y)(y1:y<r.length):af (ik p q r x) y=af r y*q-if x=y then p else 0:=by
 unfold ik;rw[kI x0 y0 (by rw[aa];exact y1),Nk];by_cases e:x=y
 ·rw[lp e,lp e,e]
 ·rw[mf e,mf e];omega
theorem sum_set:∀ {l:LI} {n:Nat} {v u:Int},l[n]?=some u->(l.set n v).sum=l.sum-u+v
 |[],n,v,u,h=>by cases n<;>cases h
 |y::l,0,v,u,h=>by
  cases h
  rw[akB,ue,ue];omega
 |y::l,n+1,v,u,h=>by
  rw[aky,ue,ue,sum_set (l:=l) (n:=n) h];omega
theorem Y4 {p q:Int}{r:LI}{x:Int}(x0 : 0<=x)(x1:x<r.length):(ik p q r x).sum=r.sum*q-p:=by
 unfold ik;have h:(r.map fun y=>y*q)[x.toNat]?=some (af r x*q):=by rw[ee,xY x0 x1];rfl
 rw[sum_set h];have:(r.map fun y=>y*q).sum=r.sum*q:=by
  have:=xt (f:=fun y=>y) q r;rw[aj8]at this;exact this
 omega
theorem ux {p q:Int}{L:LL}{d:LI}(dl:d.length=L.length){a:Int}(a0 : 0<=a)(a1:a<L.length):(du p q L d).getD a.toNat []=ik p q (L.getD a.toNat []) (af d a):=by
 unfold du af;rw[ba,RI,ba,ba,ab (show a.toNat<L.length by omega),ab (show a.toNat<d.length by omega)];rfl
theorem lP {p q:Int}{L:LL}{d:LI}(dl:d.length=L.length):(du p q L d).length=L.length:=by
 unfold du;rw[ajB,dl,ajE]
theorem Om {p q:Int}{n:Nat}{k:Int}(k0 : 0<=k)(k1:k<n+1):∀ {L:LL} {d:LI},d.length=L.length->(∀ r ∈ L,r.length=n+1)->(∀ x ∈ d,0<=x)->iK (du p q L d) k=iK L k*q-p*(d.count k:Int)
 |[],[],_,_,_=>by
  show(0:Int)=0*q-p*0;omega
 |[],_::_,h,_,_=>by cases h
 |_::_,[],h,_,_=>by cases h
 |r::L,x::d,h,hr,hx=>by
  have ih:=Om (p:=p) (q:=q) k0 k1 (L:=L) (d:=d) (by simpa using h) (fun r' h'=>hr r' (.tail _ h')) fun x' h'=>hx x' (.tail _ h')
  have e1:iK (du p q (r::L) (x::d)) k=af (ik p q r x) k+iK (du p q L d) k:=rfl;have e2:iK (r::L) k=af r k+iK L k:=rfl;rw[e1,e2,ih,xv (hx x (.head _)) k0 (by rw[hr r (.head _)];omega),OK,SI];by_cases e:x=k
  ·rw[lp e,lp (by simpa using e),ajQ,Int.mul_add];show _=_-(_+p*1);omega
  ·rw[mf e,mf (by simpa using e),ak5];omega
theorem uy {c:LI}{L:LL}{R:Int}(h:bX c L R){d:LI}(g:mB c L R d){p q:Int}{k:Int}(k0 : 0<=k)(k1:k<c.length):bq c (du p q L d) (R*q-p) k=bq c L R k*q-p*bG c d k:=by
 unfold bq bG;rw[Om k0 (by omega) g.dl (fun r hr=>(h.row r hr).1) fun x hx=>(g.dr x hx).1,Int.mul_sub,ak9,Int.mul_sub,ES,Me p (af c k)];omega
theorem bX.next {c:LI}{L:LL}{R:Int}(h:bX c L R){d:LI}(g:mB c L R d){p q:Int}(w:He c L R d p q):bX c (du p q L d) (R*q-p):=by
 have q0:=w.q0;refine⟨h.n6,by rw[lP g.dl];exact h.A6,fun z=>?_,h.c9,fun r hr=>?_,fun k k0 k1=>?_⟩
 ·have:=lP (p:=p) (q:=q) g.dl;rw[z]at this;exact h.ne (ajP.mp this.symm)
 ·obtain⟨n,hn,e⟩:=ai9 hr;rw[lP g.dl]at hn;have aR:r=ik p q (L.getD ((n:Nat):Int).toNat []) (af d (n:Nat)):=by
   rw[<- ux g.dl (by omega) (by omega),zw,ba,ab (by rw[lP g.dl];exact hn),<- e];rfl
  have ro:=h.ig (a:=(n:Nat)) (by omega) (by omega);have dp:=g.pos (n:Nat) (by omega) (by omega);have en:=w.ent (n:Nat) (by omega) (by omega);rw[aR];generalize L.getD ((n:Nat):Int).toNat []=r0 at ro dp en;generalize af d ((n:Nat):Int)=x at dp en;refine⟨by unfold ik;rw[ET,aa];exact ro.1,fun y hy=>?_,?_⟩
  ·unfold ik at hy;rcases ajw hy with z | z
   ·obtain⟨v,hv,rfl⟩:=i4.mp z;exact Nd (ro.2.1 v hv) (by omega)
   ·omega
  ·rw[Y4 dp.1.1 (by rw[ro.1];omega),ro.2.2]
 ·have h1:=uy h g (p:=p) (q:=q) k0 k1;have h2:=w.sp k k0 k1;unfold bq at h1;unfold bq at h2;omega
def lS:List (Int×Int):=(ah 6).flatMap fun a=>(ah 7).map fun x=>(a,x)
def jH (c:LI)(L:LL)(R:Int):Nat:=lS.countP (fun s=>decide (0<af (L.getD s.1.toNat []) s.2))+(ah c.length).countP fun k=>decide (0<bq c L R k)
theorem Mv {a x:Int}(a0 : 0<=a)(a1:a<6)(x0 : 0<=x)(x1:x<7):(a,x) ∈ lS:=List.mem_flatMap.mpr ⟨a,aW.mpr ⟨a0,a1⟩,i4.mpr ⟨x,aW.mpr ⟨x0,x1⟩,rfl⟩⟩
theorem Y5 {s:Int×Int}(h:s ∈ lS):(0<=s.1/\s.1<6)/\0<=s.2/\s.2<7:=by
 obtain⟨a,ha,hs⟩:=List.mem_flatMap.mp h;obtain⟨x,hx,rfl⟩:=i4.mp hs;exact⟨aW.mp ha,aW.mp hx⟩
theorem C2 {c:LI}{L:LL}{R:Int}(h:bX c L R):jH c L R<=48:=by
 unfold jH;have h1:lS.countP (fun s=>decide (0<af (L.getD s.1.toNat []) s.2))<=42:=akb;have h2:=akb (p:=fun k=>decide (0<bq c L R k)) (l:=ah c.length);rw[bM]at h2;have:=h.n6;omega
theorem Nm {c:LI}{L:LL}{R:Int}(h:bX c L R){d:LI}(g:mB c L R d) : 0<jH c L R:=by
 have Lp:=Pe.mpr h.ne;have:=g.pos 0 (by decide) (by omega);have n6:=h.n6;unfold jH;have : 0<lS.countP (fun s=>decide (0<af (L.getD s.1.toNat []) s.2)):=List.countP_pos_iff.mpr ⟨(0,af d 0),Mv (by decide) (by decide) this.1.1 (by omega),u4 this.2⟩;omega
theorem BZ {α:Type}{p q : α->Bool}:∀ {l:List α},(∀ x ∈ l,p x=true->q x=true)->(∃ x ∈ l,p x=false/\q x=true)->l.countP p<l.countP q
 |[],_,⟨_,h,_⟩=>nomatch h
 |y::l,h,⟨x,hx,h1,h2⟩=>by
  have m:=ajl (p:=p) (q:=q) (l:=l) fun z hz=>h z (.tail _ hz)
  rw[Lo,Lo];rcases gr.mp hx with rfl | hx
  ·rw[h1,h2,lp rfl,mf (by decide)];omega
  ·have ih:=BZ (p:=p) (q:=q) (l:=l) (fun z hz=>h z (.tail _ hz)) ⟨x,hx,h1,h2⟩;cases hp:p y with
   |true=>rw[lp rfl,lp (h y (.head _) hp)];omega
   |false=>rw[mf (by decide)];split<;>omega
theorem bX.less {c:LI}{L:LL}{R:Int}(h:bX c L R){d:LI}(g:mB c L R d){p q:Int}(w:He c L R d p q):jH c (du p q L d) (R*q-p)<jH c L R:=by
 have q0:=w.q0;have p0:=w.p0;have n6:=h.n6;have A6:=h.A6;have m1:∀ s ∈ lS,decide (0<af ((du p q L d).getD s.1.toNat []) s.2)=true->decide (0<af (L.getD s.1.toNat []) s.2)=true:=fun s hs z=>by
  have gI:=Y5 hs;have z':=Cn z;refine u4 ?_;by_cases a1:s.1<L.length
  ·rw[ux g.dl gI.1.1 a1]at z';have ro:=h.ig gI.1.1 a1;by_cases x1:s.2<c.length+1
   ·rw[xv (g.pos s.1 gI.1.1 a1).1.1 gI.2.1 (by rw[ro.1];omega)]at z';have ge:=h.ge s.1 s.2;rcases Zs ge with y | y
    ·exact y
    ·rw[<- y,LG]at z';split at z'<;>omega
   ·exfalso;unfold af at z';rw[ba,nt (by unfold ik;rw[ET,aa,ro.1];omega)]at z';exact absurd z' (by decide)
  ·exfalso;rw[ba,nt (by rw[lP g.dl];omega)]at z';unfold af at z';simp at z'
 have m2:∀ k ∈ ah c.length,decide (0<bq c (du p q L d) (R*q-p) k)=true->decide (0<bq c L R k)=true:=fun k hk z=>by
  have eG:=aW.mp hk;have z':=Cn z;rw[uy h g eG.1 eG.2]at z';have h2:=h.col k eG.1 eG.2;have h3 : 0<=bq c L R k:=by unfold bq;omega
  have h4:=g.u k eG.1 eG.2;refine u4 ?_;rcases Zs h3 with y | y
  ·exact y
  ·rw[<- y,h4.2.2 y.symm,LG,akH]at z';omega
 unfold jH;rcases w.hit with⟨a,a0,a1,e⟩ | ⟨k,k0,k1,hu,e⟩
 ·have dp:=g.pos a a0 a1;have ro:=h.ig a0 a1;have:=BZ (l:=lS) m1 ⟨(a,af d a),Mv a0 (by omega) dp.1.1 (by omega),tw (by
   show ¬ 0<af ((du p q L d).getD a.toNat []) (af d a);rw[ux g.dl a0 a1,xv dp.1.1 dp.1.1 (by rw[ro.1];omega),lp rfl];omega),u4 dp.2⟩
  have:=ajl m2;omega
 ·have:=BZ (l:=ah c.length) m2 ⟨k,aW.mpr ⟨k0,k1⟩,tw (by rw[uy h g k0 k1];omega),u4 (by
   have h2:=h.col k k0 k1;have h3 : 0<=bq c L R k:=by unfold bq;omega
   have:=(g.u k k0 k1).2.2;rcases Zs h3 with y | y
   ·exact y
   ·have:=this y.symm;omega)⟩
  have:=ajl m1;omega
def iL (c:LI):Nat->LL->Int->Int->List ((Int×Int)×LI)
 |0,_,_,_=>[]
 |f+1,L,R,B=>if 0<R then ((lT (wF c L R (bN c L R)).1 (B*(wF c L R (bN c L R)).2),lB (wF c L R (bN c L R)).1 (B*(wF c L R (bN c L R)).2)),bN c L R)::iL c f (du (wF c L R (bN c L R)).1 (wF c L R (bN c L R)).2 L (bN c L R)) (R*(wF c L R (bN c L R)).2-(wF c L R (bN c L R)).1) (B*(wF c L R (bN c L R)).2)else []
end
section
variable {P:Program}{w:World}{K:Frag}{mg:Str->Option Value}{base:Heap}
abbrev qj:Stmt:=top 25
theorem wj:aZ ["some", "least", "one"] ["some"] (aq qj):=bt
def vt (bs:LI):Prop:=∃ M:Int,0<M/\M<2 ^ 4000/\∀ b ∈ bs,0<b/\b ∣ M
theorem vt.lc {bs:LI}(h:vt bs)(j:Nat) : 0<cG 1 (bs.take j)/\(cG 1 (bs.take j)).natAbs<2 ^ 4000:=by
 obtain⟨M,h1,h2,h3⟩:=h;have hp:∀ b ∈ bs.take j,0<b:=fun b hb=>(h3 b (aba hb)).1
 have p:=xJ (m:=1) (by decide) hp;have d:=wN (m:=1) (n:=M) (by decide) hp ⟨M,(akW M).symm⟩ fun b hb=>(h3 b (aba hb)).2
 have:=ajq h1 d;refine⟨p,?_⟩;omega
def mS (p:Int×Int):Dv:=.tup [di p.1,di p.2]
def C3 (dd:List Dv)(t:Tr):Prop:=∃ fs:List (Int×Int),vt (fs.map (·.2))/\dd=[.lst (fs.map mS)]/\t=ti (cG 1 (fs.map (·.2)))
theorem Vf {f f1:Addr}{fd aI:FuncData}{k:Nat}(F:aV K "common_bottom" "common_bottom" qj f fd)(T:Txt mg)(Bd:Kn P w K mg base ak (k+1) "common_part" f1 aI ["one", "other"] (spT K Em)):aJ P w K mg base ak (k+2) f fd ["some"] (spT K C3):=by
 refine bD F.d wj (fun dd t h=>by obtain⟨_,_,rfl,_⟩:=h;rfl) fun dd t h=>?_
 obtain⟨fs,hb,rfl,rfl⟩:=h;refine⟨_,.inl rfl,?_⟩;refine ax (aP 1 (Ev.s av) (fun _=>wj.nd)) ?_;refine ax (e7 (bp.s (bR (ae 0 rfl) rfl)) (bJ 2 (fun _=>wj.nd)) (fun k=>[some (.fz (.lst (fs.map mS))),some (ti (cG 1 ((fs.map (·.2)).take k))),none]) rfl (fun _=>rfl) (fun j d hd=>?_)) ?_
 ·obtain⟨⟨p,b⟩,hf,rfl⟩:=dH hd;obtain⟨l1,l2⟩:=hb.lc j;have TR:(fs.map (·.2))[j]?=some b:=by rw[ee,hf];rfl
  have tD : 0<b/\b.natAbs<2 ^ 4000:=by
   obtain⟨M,h1,h2,h3⟩:=hb;obtain⟨q1,q2⟩:=h3 b (mT TR);have:=ajq h1 q2;exact⟨q1,by omega⟩
  have g0:=oO (a:=cG 1 ((fs.map (·.2)).take j)) (b:=b) (by omega);have g1:=CJ (a:=cG 1 ((fs.map (·.2)).take j)) tD.1;refine⟨_,_,rfl,aF (aP 1 (Ev.s (gh (d9 (ae 1 rfl) (aY (d:=di b) (ae 2 rfl) av rfl rfl) ⟨i6 l2,i6 tD.2⟩) (aG Bd (br _) (aj (ae 1 rfl) (aj (aY (d:=di b) (ae 2 rfl) av rfl rfl) aw)) ⟨_,b,by omega,by omega,rfl,rfl⟩) ⟨g0,i6 (by omega)⟩)) (fun _=>wj.nd)),[2],?_⟩;show[_,some (ti _),_]=[_,some (ti _),_]
  rw[fA TR,LD]
  rfl
 ·rw[aa,Mc (by rw[aa];exact br _)];exact aF (bL (Ev.s (ae 1 rfl)))
abbrev rj:Stmt:=top 28
theorem WU:aZ ["one", "bottom"] ["one", "bottom"] (aq rj):=bt
def ym (dd:List Dv)(t:Tr):Prop:=∃ (p b m:Int),0<b/\b.natAbs<2 ^ 8000/\p.natAbs<2 ^ 8000/\(m / b).natAbs<2 ^ 8000/\dd=[mS (p,b),di m]/\t=ti (p*(m / b))
theorem WV {f:Addr}{fd:FuncData}{k:Nat}(F:aV K "parts_of" "parts_of" rj f fd)(T:Txt mg):aJ P w K mg base ak (k+1) f fd ["one", "bottom"] (spT K ym):=by
 refine bD F.d WU (fun dd t h=>by obtain⟨_,_,_,_,_,_,_,rfl,_⟩:=h;rfl) fun dd t h=>?_
 obtain⟨p,b,m,h1,h2,h3,h4,rfl,rfl⟩:=h;refine⟨_,.inl rfl,?_⟩;exact aF (bL (Ev.s (d9 (aY (d:=di p) (ae 0 rfl) av rfl rfl) (gh (ae 1 rfl) (aY (d:=di b) (ae 0 rfl) av rfl rfl) ⟨h1,h2⟩) ⟨h3,h4⟩)))
theorem C4 {L:LL}{a:Int}(a0 : 0<=a)(a1:a<L.length):bu (L.map dis) a=some (dis (L.getD a.toNat [])):=by
 obtain⟨j,rfl⟩:∃ j:Nat,a=(j:Int):=⟨a.toNat,by omega⟩
 refine iV ?_;rw[ee,zw,ba,ab (by omega)];rfl
theorem Nn {n:Nat}{k:Int}(k0 : 0<=k)(k1:k<n):(ah n)[k.toNat]?=some k:=by
 unfold ah;rw[ee,CS (show k.toNat<n by omega)];show some (0+((k.toNat:Nat):Int))=some k;congr 1;omega
theorem PD (n:Nat)(f:Int->Int):hZ (((ah n).map f).map di)=(ah n).map fun k=>Dv.tup [di k,di (f k)]:=by
 rw[BP,aa,bM];refine ma fun k hk=>?_
 have eG:=aW.mp hk;rw[ba,ee,Nn eG.1 eG.2];rfl
theorem yo (c:LI):hZ (c.map di)=(ah c.length).map fun x=>Dv.tup [di x,di (af c x)]:=BP c
theorem By:∀ {r:LI} {x:Int},(∀ y ∈ r,0<=y)->x ∈ r->x<=r.sum
 |y::r,x,h,hx=>by
  have hs : 0<=r.sum:=by
   have:=oi (f:=fun z=>z) (l:=r) fun z hz=>h z (.tail _ hz)
   rw[aj8]at this;exact this
  rw[ue];rcases gr.mp hx with rfl | hx
  ·omega
  ·have:=By (r:=r) (fun z hz=>h z (.tail _ hz)) hx;have:=h y (.head _);omega
theorem LR {r:LI}(h:∀ y ∈ r,0<=y)(x:Int):af r x<=r.sum:=by
 unfold af;rw[ba];cases e:r[x.toNat]? with
 |none =>
  have:=oi (f:=fun z=>z) (l:=r) h;rw[aj8]at this;exact this
 |some y=>exact By h (mT e)
theorem kU {a:Int}(h0 : 0<=a)(h:a<2 ^ 250):a.natAbs<2 ^ 8000:=ck (n:=250) (by omega) (by decide)
abbrev qD:Stmt:=top 42
theorem Ld:aZ ["counts", "left", "whole"] ["counts", "left"] (aq qD):=bt
def DT (dd:List Dv)(t:Tr):Prop:=∃ c L R,bX c L R/\R<2 ^ 225/\dd=[dis c,.lst (L.map dis)]/\t=aU ((ah c.length).map (bq c L R))
theorem bX.R0 {c:LI}{L:LL}{R:Int}(h:bX c L R) : 0<=R:=by
 have Lp:=Pe.mpr h.ne;have ro:=h.ig (a:=0) (by decide) (by omega);rw[<- ro.2.2];have:=oi (f:=fun z=>z) (l:=L.getD (0:Int).toNat []) ro.2.1;rw[aj8]at this;exact this
theorem Vz {f:Addr}{fd:FuncData}{k:Nat}(F:aV K "spare_parts" "spare_parts" qD f fd)(T:Txt mg):aJ P w K mg base ak (k+1) f fd ["counts", "left"] (spT K DT):=by
 refine bD F.d Ld (fun dd t h=>by obtain⟨_,_,_,_,_,rfl,_⟩:=h;rfl) fun dd t h=>?_
 obtain⟨c,L,R,lf,Rb,rfl,rfl⟩:=h;refine⟨_,.inl rfl,?_⟩;have big : 1000<sizeLine:=by decide
 have R0:=lf.R0;have n6:=lf.n6;have A6:=lf.A6;have Lp:=Pe.mpr lf.ne;have ro:=lf.ig (a:=0) (by decide) (by omega);refine ax (aP 2 (bx.to (t':=ti R) (Ev.s (Dt T.Ek (dU (d:=dis (L.getD (0:Int).toNat [])) (ae 1 rfl) av rfl (C4 (by decide) (by omega))) rfl)) (by rw[ro.2.2])) (fun _=>Ld.nd)) ?_;refine aF (bL (Ev.s (Ev.to (fL (own:=["thing", "count"]) (fr:=[2,1]) (ah c.length) (fun k=>Dv.tup [di k,di (af c k)]) (fun k=>ti (bq c L R k)) (fun i=>yR ⟨rfl,rfl,by decide +kernel,by decide +kernel,by decide +kernel,by decide +kernel⟩) (bp.to (iU T.iD (ae 0 rfl) rfl) (yo c)) (eK 0 1 (fun _=>by show List.Nodup (["thing", "count", "whole", "left"]:List Str);decide)) (by decide) (by rw[bM];omega) (fun x hx=>⟨_,rfl,by
  have iN:=aW.mp hx;have c9:=lf.c9 _ (iZ iN.1 iN.2);exact se (d9 (ae 1 rfl) (ae 2 rfl) ⟨kU c9.1 (by omega),kU R0 (by omega)⟩) (Dt (ns:=L.map fun r=>af r x) T.Ek (fL (own:=["row"]) (fr:=[0]) L dis (fun r=>ti (af r x)) (fun i=>sL ["thing", "count", "whole", "left"] ⟨rfl,by decide +kernel,by decide +kernel,by decide +kernel,by decide +kernel⟩ fun y hy=>jQ _ _ y hy) (bR (ae 3 rfl) rfl) (bJ 0 (fun _=>by show List.Nodup (["row", "thing"]:List Str);decide)) (by decide) (by omega) (fun r hr=>⟨_,rfl,by exact dU (d:=di (af r x)) (ae 0 rfl) (ae 1 rfl) rfl (jB di iN.1 (by rw[(lf.row r hr).1];omega))⟩) (fun dd=>by cases dd<;>rfl)) (uG _ _))⟩) (fun dd=>by rcases dd with _ | ⟨_,_ | ⟨_,_⟩⟩<;>rfl)) (by show Tr.ow _=Tr.ow _;rw[gz];rfl))))
abbrev qU:Stmt:=top 43
theorem Bk:aZ ["counts", "left", "must", "may"] ["counts", "left"] (aq qU):=bt
def Qz (dd:List Dv)(t:Tr):Prop:=∃ c L R,bX c L R/\0<R/\R<2 ^ 225/\dd=[dis c,.lst (L.map dis)]/\t=aU (bN c L R)
theorem Wk {f f1 f2:Addr}{fd aI fd2:FuncData}{k:Nat}(F:aV K "next_deal" "next_deal" qU f fd)(T:Txt mg)(Bf:Kn P w K mg base ak (k+1) "spare_parts" f1 aI ["counts", "left"] (spT K DT))(X1:Kn P w K mg base ak (k+10) "deal_of" f2 fd2 ["counts", "may", "must"] (spT K Oj)):aJ P w K mg base ak (k+11) f fd ["counts", "left"] (spT K Qz):=by
 refine bD F.d Bk (fun dd t h=>by obtain⟨_,_,_,_,_,_,rfl,_⟩:=h;rfl) fun dd t h=>?_
 obtain⟨c,L,R,lf,R0,Rb,rfl,rfl⟩:=h;refine⟨_,.inl rfl,?_⟩;have big : 1000<sizeLine:=by decide
 have n6:=lf.n6;have A6:=lf.A6;have r1:k+1<=k+10:=by omega
 refine ax (i5 2 (j6 (dD.as (d:=dis (nh c L R)) (Fc (own:=["thing", "parts"]) (fr:=[]) (ah c.length) (fun k=>Dv.tup [di k,di (bq c L R k)]) (fun k=>decide (bq c L R k=0)) ti (bp.to (iU T.iD (aG Bf r1 (aj (ae 0 rfl) (aj (ae 1 rfl) aw)) ⟨c,L,R,lf,Rb,rfl,rfl⟩) (eZ _)) (PD _ _)) (eK 0 1 (fun _=>by show List.Nodup (["thing", "parts"]:List Str);decide)) (by decide) (by rw[bM];omega) (fun x hx=>⟨_,rfl,by exact g9 (jD (ae 1 rfl) av),fun _=>by exact ae 0 rfl⟩) (fun dd=>by rcases dd with _ | ⟨_,_ | ⟨_,_⟩⟩<;>rfl)) (by rw[uG _ (fun x=>x),aj8];rfl))) (fun i=>bV) (fun _=>Bk.nd)) ?_;refine ax (i5 3 (j6 (dD.as (d:=.lst ((cz L).map dis)) (j7 (own:=["row"]) (fr:=[]) L dis (fun r=>aU ((ah r.length).filter fun x=>decide (0<af r x))) (bR (ae 1 rfl) rfl) (bJ 0 (fun _=>by show List.Nodup (["row"]:List Str);decide)) (by decide) (by omega) (fun r hr=>⟨_,rfl,by
  have hl:=(lf.row r hr).1;exact kJ (own:=["one", "parts"]) (fr:=[]) (ah r.length) (fun x=>Dv.tup [di x,di (af r x)]) (fun x=>decide (0<af r x)) ti (fun i=>sL ["row"] ⟨rfl,by decide +kernel,by decide +kernel,by decide +kernel,by decide +kernel⟩ fun y hy=>jQ _ _ y hy) (bp.to (iU T.iD (ae 0 rfl) rfl) (yo r)) (eK 0 1 (fun _=>by show List.Nodup (["one", "parts"]:List Str);decide)) (by decide) (by rw[bM];omega) (fun x hx=>⟨_,rfl,by exact g9 (jX (ae 1 rfl) av),fun _=>by exact ae 0 rfl⟩) (fun dd=>by rcases dd with _ | ⟨_,_ | ⟨_,_⟩⟩<;>rfl)⟩) (fun dd=>by cases dd<;>rfl)) (by rw[dk];unfold cz;rw[gz];congr 1;exact ma fun r _=>eZ _))) (fun i=>bV) (fun _=>Bk.nd)) ?_
 exact aF (bL (Ev.s (aG X1 (br _) (aj (ae 0 rfl) (aj (ae 3 rfl) (aj (ae 2 rfl) aw))) ⟨c,cz L,nh c L R,lf.lk,rfl,(lf.y4 R0).2.symm⟩)))
theorem aae (x:Int):(lT x 1,lB x 1)=fW 2520 (2520*x):=kH (by decide) (by decide) (by rw[ai6,Me])
theorem abC {s u:Int}(u0 : 0<u)(u9:u<=9):(lT s u,lB s u)=fW 2520 (s*(2520 / u)):=kH (by decide) (by omega) (by rw[ES,(uw u0 u9).1])
abbrev qE:Stmt:=top 44
theorem wq:aZ ["counts", "left", "deal", "weights", "thing", "parts", "unused"] ["counts", "left", "deal"] (aq qE):=bt
def QA (dd:List Dv)(t:Tr):Prop:=∃ c L R d,bX c L R/\mB c L R d/\R<2 ^ 225/\dd=[dis c,.lst (L.map dis),dis d]/\t=tF (wF c L R d)
theorem bX.abD {c:LI}{L:LL}{R:Int}(h:bX c L R){k:Int}(k0 : 0<=k)(k1:k<c.length) : 0<=bq c L R k/\bq c L R k<=9*R:=by
 have h1:=h.col k k0 k1;have h2:=h.c9 _ (iZ k0 k1);have R0:=h.R0;have : 0<=iK L k:=by
  rw[<- BX];exact oi fun a _=>h.ge a k
 have:af c k*R<=9*R:=AL h2.2 R0;unfold bq;omega
theorem abE {c:LI}{L:LL}{R:Int}(h:bX c L R){d:LI}(g:mB c L R d)(Rb:R<2 ^ 225):∀ s ∈ fF c L R d,0<=s/\s<2 ^ 245:=fun s hs=>by
 unfold fF at hs;rcases wb.mp hs with z | z
 ·obtain⟨a,ha,rfl⟩:=i4.mp z;have jM:=aW.mp ha;have ro:=h.ig jM.1 jM.2;have h1:=LR ro.2.1 (af d a);have h2:=h.ge a (af d a);rw[ro.2.2]at h1;omega
 ·obtain⟨k,hk,rfl⟩:=i4.mp z;obtain⟨q1,q2⟩:=AM.mp hk;have eG:=aW.mp q1;have hu:=Cn q2;have hd:=uw hu (g.u k eG.1 eG.2).2.1;have gI:=h.abD eG.1 eG.2;have hle : 2520 / bG c d k<=2520:=by
   have : 2520 / bG c d k*1<=2520 / bG c d k*bG c d k:=GG (by omega) (by omega);omega
  have hm:bq c L R k*(2520 / bG c d k)<=bq c L R k*2520:=GG hle gI.1;exact⟨Nd gI.1 (by omega),by omega⟩
theorem VA {f f1 f2 f3:Addr}{fd aI fd2 eE:FuncData}{k:Nat}{tk:Tok}(F:aV K "most_weight" "most_weight" qE f fd)(T:Txt mg)(cq:Kn P w K mg base ak (k+2) "fraction" f1 aI ["top", "bottom"] (spT K gw))(B1:Binds K aI ["top", "bottom"] [.int 1 tk])(Bf:Kn P w K mg base ak (k+1) "spare_parts" f2 fd2 ["counts", "left"] (spT K DT))(Bt:Kn P w K mg base ak (k+2) "least_of" f3 eE ["some"] (spT K Ck)):aJ P w K mg base ak (k+3) f fd ["counts", "left", "deal"] (spT K QA):=by
 refine bD F.d wq (fun dd t h=>by obtain⟨_,_,_,_,_,_,_,rfl,_⟩:=h;rfl) fun dd t h=>?_
 obtain⟨c,L,R,d,lf,g,Rb,rfl,rfl⟩:=h;refine⟨_,.inl rfl,?_⟩;have big : 1000<sizeLine:=by decide
 have n6:=lf.n6;have A6:=lf.A6;have dl:=g.dl;refine ax (i5 3 (j6 (dD.to (t':=.ow ((((ah L.length).map fun a=>2520*af (L.getD a.toNat []) (af d a))++((ah 0).filter fun k=>decide (0<bG c d k)).map fun k=>bq c L R k*(2520 / bG c d k)).map fun s=>tF (fW 2520 s))) (j7 (own:=["asker", "one"]) (fr:=[1]) (ah L.length) (fun a=>Dv.tup [di a,di (af d a)]) (fun a=>tF (fW 2520 (2520*af (L.getD a.toNat []) (af d a)))) (bp.to (iU T.iD (ae 2 rfl) rfl) (by rw[yo,dl])) (eK 0 1 (fun _=>by show List.Nodup (["asker", "one", "left"]:List Str);decide)) (by decide) (by rw[bM];omega) (fun a ha=>⟨_,rfl,by
  have jM:=aW.mp ha;have ro:=lf.ig jM.1 jM.2;have dp:=(g.pos a jM.1 jM.2).1;exact Ev.to (jR cq B1 (br _) (aj (dU (d:=di (af (L.getD a.toNat []) (af d a))) (dU (d:=dis (L.getD a.toNat [])) (ae 2 rfl) (ae 0 rfl) rfl (C4 jM.1 jM.2)) (ae 1 rfl) rfl (jB di dp.1 (by rw[ro.1];omega))) aw) ⟨_,1,by decide,ck (n:=1) (by decide) (by decide),rfl,rfl⟩) (by rw[aae])⟩) (fun dd=>by rcases dd with _ | ⟨_,_ | ⟨_,_⟩⟩<;>rfl)) (by show Tr.ow _=Tr.ow (List.map _ (_++[]));rw[FF,gz];rfl))) (fun i=>bV) (fun _=>wq.nd)) ?_
 refine ax (e7 (its:=(ah c.length).map fun k=>Dv.tup [di k,di (bq c L R k)]) (bp.s (bp.to (iU T.iD (aG Bf (by show k+1<=k+2;omega) (aj (ae 0 rfl) (aj (ae 1 rfl) aw)) ⟨c,L,R,lf,Rb,rfl,rfl⟩) (eZ _)) (PD _ _))) (eK 4 5 (fun _=>wq.nd)) (fun k=>[some (.fz (dis c)),some (.fz (.lst (L.map dis))),some (.fz (dis d)),some (.ow ((((ah L.length).map fun a=>2520*af (L.getD a.toNat []) (af d a))++((ah k).filter fun k=>decide (0<bG c d k)).map fun k=>bq c L R k*(2520 / bG c d k)).map fun s=>tF (fW 2520 s))),none,none,none]) rfl (fun _=>rfl) (fun j e hd=>?_)) ?_
 ·obtain⟨y,hy,rfl⟩:=dH hd;have hj:j<c.length:=by
   have:=(ir.mp hy).1;rw[bM]at this;exact this
  have ey:y=0+(j:Int):=by
   unfold ah at hy;rw[ee,CS hj]at hy;exact(xw hy).symm
  have y0 : 0<=y:=by omega
  have y1:y<c.length:=by omega
  have gu:=g.u y y0 y1;rw[show ah (j+1)=ah j++[y] by rw[ey];unfold ah;rw[ako,Cs];rfl,akz,Lm,List.filter_nil,Cs (f:=fun k=>bq c L R k*(2520 / bG c d k))];have len0:(((ah j).filter fun k=>decide (0<bG c d k)).map fun k=>bq c L R k*(2520 / bG c d k)).length<=6:=by
   rw[aa];exact zd (IS _ _) (by rw[bM];omega)
  generalize ((ah j).filter fun k=>decide (0<bG c d k)).map (fun k=>bq c L R k*(2520 / bG c d k))=l0 at len0;have ac4:((ah L.length).map fun a=>2520*af (L.getD a.toNat []) (af d a)).length<=6:=by rw[aa,bM];exact A6
  generalize (ah L.length).map (fun a=>2520*af (L.getD a.toNat []) (af d a))=l1 at ac4;refine⟨_,[some (.fz (dis c)),some (.fz (.lst (L.map dis))),some (.fz (dis d)),some (.ow ((l1++(l0++(if decide (0<bG c d y)=true then [y]else []).map fun k=>bq c L R k*(2520 / bG c d k))).map fun s=>tF (fW 2520 s))),none,none,none],rfl,?_,⟨[],rfl⟩⟩;refine ax (aP 6 (bx.to (t':=ti (bG c d y)) (Ev.s (se (dU (d:=di (af c y)) (ae 0 rfl) (ae 4 rfl) rfl (jB di y0 y1)) (wZ (ae 2 rfl) rfl (ae 4 rfl)))) rfl) (fun _=>wq.nd)) ?_;refine ax (ρ1:=[some (.fz (dis c)),some (.fz (.lst (L.map dis))),some (.fz (dis d)),some (.ow ((l1++(l0++(if decide (0<bG c d y)=true then [y]else []).map fun k=>bq c L R k*(2520 / bG c d k))).map fun s=>tF (fW 2520 s))),some (ti y),some (ti (bq c L R y)),some (ti (bG c d y))]) (yv (Et.s (jX (ae 6 rfl) av)) (fun h=>?_) (fun h=>?_)) (MN ⟨[4,5,6],rfl⟩)
  ·have hu:=Cn h;refine bw.to (aF (rm 3 rfl (bx.to (t':=tF (fW 2520 (bq c L R y*(2520 / bG c d y)))) (Ev.s (aG cq (br _) (aj (ae 5 rfl) (aj (ae 6 rfl) aw)) ⟨bq c L R y,bG c d y,hu,kU (by omega) (by omega),rfl,rfl⟩)) (by rw[abC hu gu.2.1])) (by rw[aa,qr];omega))) ?_;show Out.nx [_,_,_,some (Tr.ow (_++[_])),_,_,_]=Out.nx [_,_,_,some (Tr.ow _),_,_,_];rw[lp h,<- ID,Cs (l₁:=l1++l0)];rfl
  ·refine bw.to uo ?_;rw[mf (by rw[h];decide),ai5,FF]
   rfl
 rw[show((ah c.length).map fun k=>Dv.tup [di k,di (bq c L R k)]).length=c.length by rw[aa,bM]];refine tT (d:=cn 2520 (fF c L R d)) 3 rfl (by rw[dk];rfl) ?_;have ne:fF c L R d ≠ []:=fun z=>by
  have:(fF c L R d).length=0:=by rw[z];rfl
  unfold fF at this;rw[qr,aa,bM]at this;have Lp:=Pe.mpr lf.ne;omega
 exact aF (bL (Ev.s (aG Bt (br _) (aj (ae 3 rfl) aw) ⟨2520,fF c L R d,by decide,by decide,ne,abE lf g Rb,rfl,rfl⟩)))
def j9 (p q:Int)(L:LL)(d:LI):Nat->LL
 |0=>L.map fun r=>r.map fun y=>y*q
 |k+1=>(j9 p q L d k).set k (ik p q (L.getD k []) (af d k))
theorem C5 (p q:Int)(L:LL)(d:LI):∀ k,k<=L.length->(j9 p q L d k).length=L.length/\∀ i,i<L.length->(j9 p q L d k)[i]?=some (if i<k then ik p q (L.getD i []) (af d (i:Nat))else (L.getD i []).map fun y=>y*q)
 |0,_=>⟨aa _,fun i hi=>by
  show(L.map _)[i]?=_;rw[ee,ba,ab hi,mf (by omega)];rfl⟩
 |k+1,hk=>by
  obtain⟨h1,h2⟩:=C5 p q L d k (by omega);refine⟨by show(List.set _ _ _).length=_;rw[ET];exact h1,fun i hi=>?_⟩;show((j9 p q L d k).set k _)[i]?=_;rw[Lu];by_cases e:k=i
  ·subst e;rw[lp rfl,lp (by omega),lp (by omega)]
  ·rw[mf e,h2 i hi];by_cases l:i<k
   ·rw[lp l,lp (by omega)]
   ·rw[mf l,mf (by omega)]
theorem aaf {p q:Int}{L:LL}{d:LI}(dl:d.length=L.length):j9 p q L d L.length=du p q L d:=by
 obtain⟨h1,h2⟩:=C5 p q L d L.length (br _);refine IF fun i=>?_
 by_cases hi:i<L.length
 ·rw[h2 i hi,lp hi];have:=ux (p:=p) (q:=q) dl (a:=(i:Nat)) (by omega) (by omega);rw[zw,ba,ab (by rw[lP dl];exact hi)]at this;rw[ab (by rw[lP dl];exact hi)];exact congrArg some this.symm
 ·rw[nt (by omega),nt (by rw[lP dl];omega)]
abbrev qM:Stmt:=top 45
theorem Bg:aZ ["left", "deal", "weight", "finer", "asker", "one"] ["left", "deal", "weight"] (aq qM):=bt
def PF (dd:List Dv)(t:Tr):Prop:=∃ c L R d p q,bX c L R/\mB c L R d/\R<2 ^ 225/\0<q/\q<=9/\dd=[.lst (L.map dis),dis d,dF (p,q)]/\t=fO (du p q L d)
theorem VX {f:Addr}{fd:FuncData}{k:Nat}(F:aV K "left_after" "left_after" qM f fd)(T:Txt mg):aJ P w K mg base ak (k+1) f fd ["left", "deal", "weight"] (spT K PF):=by
 refine bD F.d Bg (fun dd t h=>by obtain⟨_,_,_,_,_,_,_,_,_,_,_,rfl,_⟩:=h;rfl) fun dd t h=>?_
 obtain⟨c,L,R,d,p,q,lf,g,Rb,q0,q9,rfl,rfl⟩:=h;refine⟨_,.inl rfl,?_⟩;have big : 1000<sizeLine:=by decide
 have n6:=lf.n6;have A6:=lf.A6;have dl:=g.dl;refine ax (i5 3 (j6 (dD.to (t':=fO (j9 p q L d 0)) (j7 (own:=["row"]) (fr:=[2]) L dis (fun r=>aU (r.map fun y=>y*q)) (bR (ae 0 rfl) rfl) (bJ 0 (fun _=>by show List.Nodup (["row", "weight"]:List Str);decide)) (by decide) (by omega) (fun r hr=>⟨_,rfl,by
  have ro:=lf.row r hr;exact Ev.to (fL (own:=["parts"]) (fr:=[1]) r di (fun y=>ti (y*q)) (fun i=>sL ["row", "weight"] ⟨rfl,by decide +kernel,by decide +kernel,by decide +kernel,by decide +kernel⟩ fun y hy=>jQ _ _ y hy) (bR (ae 0 rfl) rfl) (bJ 0 (fun _=>by show List.Nodup (["parts", "weight"]:List Str);decide)) (by decide) (by omega) (fun y hy=>⟨_,rfl,by
   have h1:=ro.2.1 y hy;have h2:=By ro.2.1 hy;rw[ro.2.2]at h2;exact d9 (ae 0 rfl) (aY (d:=di q) (ae 1 rfl) av rfl rfl) ⟨kU h1 (by omega),kU (by omega) (by omega)⟩⟩) (fun dd=>by cases dd<;>rfl)) (by show Tr.ow _=Tr.ow _;rw[gz];rfl)⟩) (fun dd=>by cases dd<;>rfl)) (by show Tr.ow _=Tr.ow _;unfold j9;rw[gz];rfl))) (fun i=>bV) (fun _=>Bg.nd)) ?_
 refine ax (e7 (its:=(ah L.length).map fun a=>Dv.tup [di a,di (af d a)]) (bp.s (bp.to (iU T.iD (ae 1 rfl) rfl) (by rw[yo,dl]))) (eK 4 5 (fun _=>Bg.nd)) (fun k=>[some (.fz (.lst (L.map dis))),some (.fz (dis d)),some (.fz (dF (p,q))),some (fO (j9 p q L d k)),none,none]) rfl (fun _=>rfl) (fun j e hd=>?_)) ?_
 ·obtain⟨y,hy,rfl⟩:=dH hd;have hj:j<L.length:=by
   have:=(ir.mp hy).1;rw[bM]at this;exact this
  have ey:y=(j:Int):=by
   unfold ah at hy;rw[ee,CS hj]at hy;have : 0+(j:Int)=y:=xw hy;omega
  subst ey;obtain⟨al,ag⟩:=C5 p q L d j (by omega);have gj:=ag j hj;rw[mf (by omega)]at gj;have ro:=lf.ig (a:=(j:Int)) (by omega) (by omega);rw[zw]at ro;have dp:=g.pos (j:Int) (by omega) (by omega);rw[zw]at dp;rw[show j9 p q L d (j+1)=(j9 p q L d j).set j (ik p q (L.getD j []) (af d (j:Nat)))from rfl];generalize j9 p q L d j=M at al gj;generalize L.getD j []=r at gj ro dp;generalize af d (j:Nat)=x at dp;have ixj:dv (M.map aU).length (j:Int)=some j:=by
   unfold dv;rw[aa,lp (by omega),lp (by omega)];rfl
  have gV:bu (M.map dis) (j:Int)=some (dis (r.map fun y=>y*q)):=iV (by rw[ee,gj];rfl);refine⟨_,_,rfl,aF (XN 3 4 5 (ts:=M.map aU) (us:=(r.map fun y=>y*q).map fun n=>.fz (di n)) (n1:=(j:Int)) (n:=x) (i:=j) (m:=x.toNat) (t:=ti (af r x*q-p)) rfl rfl rfl ixj (by rw[ee,gj];rfl) ?_ (Ev.pk (se (dU (d:=di (af r x*q)) (dU (d:=dis (r.map fun y=>y*q)) (ae 3 rfl) (ae 4 rfl) (lM M) gV) (ae 5 rfl) rfl ?_) (aY (d:=di p) (ae 2 rfl) av rfl rfl)) True.intro) (hps:=fun i'=>rZ (oR uh (pv 3) (pv 4) (fun _ _=>rfl)) (pv 5) set_list)),[4,5],?_⟩
  ·unfold dv;rw[aa,aa,lp dp.1.1,lp (by rw[ro.1];omega)]
  ·rw[<- Nk];exact jB di dp.1.1 (by rw[aa,ro.1];omega)
  ·show[_,_,_,some (Tr.ow (List.set _ _ _)),_,_]=[_,_,_,some (Tr.ow _),_,_]
   unfold ik;rw[aj5];show _=[_,_,_,some (Tr.ow (List.set _ _ (Tr.ow (List.map _ (List.set _ _ _))))),_,_]
   rw[aj5]
 rw[show((ah L.length).map fun a=>Dv.tup [di a,di (af d a)]).length=L.length by rw[aa,bM],aaf dl];exact aF (oG 3 rfl)
end
section
variable {P:Program}{w:World}{K:Frag}{mg:Str->Option Value}{base:Heap}
theorem DU {W s:Int}(w0 : 0<W):(fW W s).2 ∣ W:=by
 have cr:=gg (W:=W) (s:=s) w0;have co:=Dy (W:=W) (s:=s) w0;generalize (fW W s).1=p at cr co;generalize (fW W s).2=q at cr co ⊢;have h1:q.natAbs ∣ p.natAbs*W.natAbs:=by
  rw[<- WE,cr,WE];exact Nat.dvd_mul_left _ _
 have h2:Nat.Coprime q.natAbs p.natAbs:=by
  show Nat.gcd _ _=1;rw[Nat.gcd_comm];exact co
 exact YU.mp (h2.dvd_of_dvd_mul_left h1)
def kW (W:Int)(r:LI):Int:=cG 1 (r.map fun s=>(fW W s).2)
def cm (W:Int)(rows:LL):Int:=cG 1 (rows.map (kW W))
theorem uz {W:Int}(w0 : 0<W)(r:LI) : 0<kW W r/\kW W r ∣ W/\∀ s ∈ r,(fW W s).2 ∣ kW W r:=by
 have hp:∀ b ∈ r.map fun s=>(fW W s).2,0<b:=fun b hb=>by
  obtain⟨s,_,rfl⟩:=i4.mp hb;exact dI w0
 refine⟨xJ (by decide) hp,wN (by decide) hp ⟨W,(akW W).symm⟩ fun b hb=>?_,fun s hs=>(xK (by decide) hp).2 _ (i4.mpr ⟨s,hs,rfl⟩)⟩;obtain⟨s,_,rfl⟩:=i4.mp hb;exact DU w0
theorem C6 {W:Int}(w0 : 0<W)(rows:LL) : 0<cm W rows/\cm W rows ∣ W/\∀ r ∈ rows,∀ s ∈ r,(fW W s).2 ∣ cm W rows:=by
 have hp:∀ b ∈ rows.map (kW W),0<b:=fun b hb=>by
  obtain⟨r,_,rfl⟩:=i4.mp hb;exact(uz w0 r).1
 refine⟨xJ (by decide) hp,wN (by decide) hp ⟨W,(akW W).symm⟩ fun b hb=>?_,fun r hr s hs=>US ((uz w0 r).2.2 s hs) ((xK (by decide) hp).2 _ (i4.mpr ⟨r,hr,rfl⟩))⟩;obtain⟨r,_,rfl⟩:=i4.mp hb;exact(uz w0 r).2.1
theorem PH {W:Int}(w1:W<2 ^ 70):W<2 ^ 4000:=by
 have:(2:Int) ^ 70<2 ^ 4000:=by
  have h:(2:Nat) ^ 70<2 ^ 4000:=Nat.pow_lt_pow_right (by decide) (by decide)
  exact_mod_cast h
 exact akF w1 this
abbrev qk:Stmt:=top 27
theorem Vg:aZ ["rows"] ["rows"] (aq qk):=bt
def Oo (dd:List Dv)(t:Tr):Prop:=∃ W rows,0<W/\W<2 ^ 70/\rows.length<=20/\dd=[bI W rows]/\t=ti (cm W rows)
theorem Vh {f f1:Addr}{fd aI:FuncData}{k:Nat}(F:aV K "bottom_of_all" "bottom_of_all" qk f fd)(T:Txt mg)(wk:Kn P w K mg base ak (k+2) "common_bottom" f1 aI ["some"] (spT K C3)):aJ P w K mg base ak (k+3) f fd ["rows"] (spT K Oo):=by
 refine bD F.d Vg (fun dd t h=>by obtain⟨_,_,_,_,_,rfl,_⟩:=h;rfl) fun dd t h=>?_
 obtain⟨W,rows,w0,w1,hl,rfl,rfl⟩:=h;refine⟨_,.inl rfl,?_⟩;have big : 1000<sizeLine:=by decide
 have tH:er (.ow (rows.map fun r=>Tr.tp [ti 1,ti (kW W r)]))=.lst ((rows.map fun r=>((1:Int),kW W r)).map mS):=by rw[dk,gz];rfl
 refine aF (bL (Ev.s (aG wk (br _) (aj (Ev.as (d:=.lst ((rows.map fun r=>((1:Int),kW W r)).map mS)) (fL (own:=["row"]) (fr:=[]) rows (cn W) (fun r=>Tr.tp [ti 1,ti (kW W r)]) (fun i=>bV) (bR (ae 0 rfl) rfl) (bJ 0 (fun _=>by show List.Nodup (["row"]:List Str);decide)) (by decide) (by omega) (fun r hr=>⟨_,rfl,by
  exact Ds (aj av (aj (aG wk (br _) (aj (ae 0 rfl) aw) ⟨r.map (fW W),⟨W,w0,PH w1,fun b hb=>by
   rw[gz]at hb;obtain⟨s,_,rfl⟩:=i4.mp hb;exact⟨dI w0,DU w0⟩⟩,by rw[gz];rfl,by rw[gz];rfl⟩) aw)) (by show 2<=sizeLine;decide)⟩) (fun dd=>by cases dd<;>rfl)) tH) aw) ⟨rows.map fun r=>((1:Int),kW W r),⟨W,w0,PH w1,fun b hb=>?_⟩,rfl,?_⟩)))
 ·rw[gz]at hb;obtain⟨r,_,rfl⟩:=i4.mp hb;exact⟨(uz w0 r).1,(uz w0 r).2.1⟩
 ·rw[gz];rfl
def gf (W B s:Int):Int:=(fW W s).1*(B / (fW W s).2)
def L0 (W:Int)(rows:LL):LL:=rows.map fun r=>r.map (gf W (cm W rows))
theorem PJ {W B s:Int}(w0 : 0<W)(hd:(fW W s).2 ∣ B):gf W B s*W=s*B:=by
 have cr:=gg (W:=W) (s:=s) w0;have q0:=dI (W:=W) (s:=s) w0;unfold gf;generalize (fW W s).1=p at cr;generalize (fW W s).2=q at cr q0 hd;obtain⟨m,rfl⟩:=hd;rw[LB _ (by omega),BN,cr,ES]
theorem C7 {W B:Int}(w0 : 0<W):∀ {l:LI},(∀ s ∈ l,(fW W s).2 ∣ B)->(l.map (gf W B)).sum*W=l.sum*B
 |[],_=>by rw[ai5,List.sum_nil,LG,LG]
 |s::l,h=>by
  rw[i8,ue,ue,SI,SI,PJ w0 (h s (.head _)),C7 w0 fun y hy=>h y (.tail _ hy)]
theorem Oq {W B:Int}(w0 : 0<W)(r:LI)(x:Int):af (r.map (gf W B)) x=gf W B (af r x):=by
 unfold af;rw[ba,ba,ee];cases r[x.toNat]? with
 |none =>
  show(0:Int)=gf W B 0;unfold gf;rw[xP w0];show(0:Int)=0*_;rw[LG]
 |some v=>rfl
theorem PK {W:Int}{c:LI}{rows:LL}(sh:vg W rows)(n6:c.length<=6)(c9:∀ x ∈ c,0<=x/\x<=9)(ne:rows ≠ [])(A6:rows.length<=6)(ar:kR W c rows=true):bX c (L0 W rows) (cm W rows):=by
 have w0:=sh.w0;obtain⟨b0,bd,bs⟩:=C6 w0 rows;unfold kR at ar;rw[BS]at ar;have iI:∀ r ∈ rows,r.length=c.length+1/\(∀ s ∈ r,0<=s)/\r.sum=W:=fun r hr=>by
  have:=LM.mp ar.1 r hr;unfold ie at this;rw[BS,BS]at this;exact⟨Cn this.1,fun s hs=>Cn (LM.mp this.2.1 s hs),Cn this.2.2⟩
 refine⟨n6,by unfold L0;rw[aa];exact A6,fun z=>ne (List.map_eq_nil_iff.mp z),c9,fun r hr=>?_,fun k k0 k1=>?_⟩
 ·obtain⟨r0,h0,rfl⟩:=i4.mp hr;have h:=iI r0 h0;refine⟨by rw[aa];exact h.1,fun y hy=>?_,?_⟩
  ·obtain⟨s,hs,rfl⟩:=i4.mp hy;have q0:=dI (W:=W) (s:=s) w0;exact Nd (XI w0 (h.2.1 s hs)) (ajf (by omega) (by omega))
  ·have:=C7 (B:=cm W rows) w0 (l:=r0) fun s hs=>bs r0 h0 s hs
   rw[h.2.2,Me W]at this;exact EN (by omega) this
 ·have hc:=Cn (LM.mp ar.2 k (aW.mpr ⟨k0,k1⟩));have e:iK (L0 W rows) k=((gy rows k).map (gf W (cm W rows))).sum:=by
   unfold iK L0 gy;rw[gz,gz];congr 1;exact ma fun r _=>Oq w0 r k
  have h1:=C7 (B:=cm W rows) w0 (l:=gy rows k) fun s hs=>by
   obtain⟨r,hr,rfl⟩:=i4.mp hs;have hl:=(iI r hr).1;refine bs r hr _ ?_;exact iZ (l:=r) k0 (by omega)
  rw[<- e]at h1;have h2:(gy rows k).sum*cm W rows<=af c k*W*cm W rows:=AL hc (by omega);rw[<- h1,BN]at h2;exact Int.le_of_mul_le_mul_right h2 w0
abbrev kz (m:(Int×Int)×LI):Tr:=.tp [tF m.1,aU m.2]
def uQ (W:Int)(c:LI)(rows:LL):List ((Int×Int)×LI):=iL c 48 (L0 W rows) (cm W rows) (cm W rows)
structure yF (W:Int) (c:LI) (rows:LL):Prop where
 sh:vg W rows
 n6:c.length<=6
 c9:∀ x ∈ c,0<=x/\x<=9
 ne:rows ≠ []
 A6:rows.length<=6
 ar:kR W c rows=true
def Rf (dd:List Dv)(t:Tr):Prop:=∃ W c rows,yF W c rows/\dd=[dis c,bI W rows]/\t=.ow ((uQ W c rows).map kz)
structure Rg where
 L:LL
 R:Int
 B:Int
 acc:List ((Int×Int)×LI)
 f:Nat
structure MxW (c:LI) (res:List ((Int×Int)×LI)) (s:Rg):Prop where
 lf:bX c s.L s.R
 me:jH c s.L s.R<=s.f
 B0 : 0<s.B
 Bb:s.B*9 ^ s.f<2 ^ 224
 Rb:s.R*9 ^ s.f<2 ^ 224
 eq:s.acc++iL c s.f s.L s.R s.B=res
 len:s.acc.length+s.f<=48
theorem PL {a:Int}{f:Nat}(h0 : 0<=a)(h:a*9 ^ f<2 ^ 224):a<2 ^ 225:=by
 have h1:(1:Int)<=9 ^ f:=by
  have:(1:Nat)<=9 ^ f:=zd Nat.one_le_two_pow (Nat.pow_le_pow_left (by decide) f)
  exact_mod_cast this
 have:a*1<=a*9 ^ f:=GG h1 h0;omega
theorem pow_step {a b:Int}{f:Nat}(h:a*9 ^ (f+1)<2 ^ 224)(hb:b<=a*9):b*9 ^ f<2 ^ 224:=by
 have h0:(0:Int)<=9 ^ f:=Int.pow_nonneg (by decide);have h1:b*9 ^ f<=a*9*9 ^ f:=AL hb h0;rw[Int.pow_succ,Me (9 ^ f) 9,<- ES]at h;omega
theorem acm (l:List ((Int×Int)×LI)):jG (l.map kz)=true:=xQ fun t ht=>by
 obtain⟨m,_,rfl⟩:=i4.mp ht;show(true&&(true&&(jG (m.2.map fun n=>Tr.fz (di n))&&true)))=true;rw[xQ fun t ht=>by obtain⟨x,_,rfl⟩:=i4.mp ht;rfl];rfl
abbrev rK:Stmt:=top 46
theorem mW:aZ ["counts", "shares", "bottom", "left", "mix", "deal", "weight"] ["counts", "shares"] (aq rK):=bt
theorem X2 {f f1 f2 f3 f4 f5 f6 f7:Addr}{fd aI fd2 eE mN vX vY vZ:FuncData}{k:Nat}(F:aV K "mix_of" "mix_of" rK f fd)(T:Txt mg)(Wl:Kn P w K mg base ak (k+6) "are_shares" f1 aI ["counts", "shares"] (spT K Q8))(Vo:Kn P w K mg base ak (k+3) "bottom_of_all" f2 fd2 ["rows"] (spT K Oo))(wI:Kn P w K mg base ak (k+1) "parts_of" f3 eE ["one", "bottom"] (spT K ym))(WW:Kn P w K mg base ak (k+11) "next_deal" f4 mN ["counts", "left"] (spT K Qz))(VY:Kn P w K mg base ak (k+3) "most_weight" f5 vX ["counts", "left", "deal"] (spT K QA))(Wm:Kn P w K mg base ak (k+1) "left_after" f6 vY ["left", "deal", "weight"] (spT K PF))(cq:Kn P w K mg base ak (k+2) "fraction" f7 vZ ["top", "bottom"] (spT K gw)):aJ P w K mg base ak (k+12) f fd ["counts", "shares"] (spT K Rf):=by
 refine bD F.d mW (fun dd t h=>by obtain⟨_,_,_,_,rfl,_⟩:=h;rfl) fun dd t h=>?_
 obtain⟨W,c,rows,mi,rfl,rfl⟩:=h;refine⟨_,.inl rfl,?_⟩;have big : 1000<sizeLine:=by decide
 obtain⟨tk,gm⟩:=T.sk;have n6:=mi.n6;have A6:=mi.A6;have w0:=mi.sh.w0;have w1:=mi.sh.w1;have Lp:=Pe.mpr mi.ne;have el:∀ {α:Type} (g : α->Dv) (l:List α),((l.map g).length:Int)=l.length:=fun g l=>by rw[aa]
 have r1:k+1<=k+11:=by omega
 have r2:k+2<=k+11:=by omega
 have r3:k+3<=k+11:=by omega
 have r6:k+6<=k+11:=by omega
 refine ax (cH (Et.s (Ew.et (gk (jD (bS T.bQ (ae 1 rfl) (.inl rfl)) av) fun _=>(gk (jX (bS T.bQ (ae 1 rfl) (.inl rfl)) (um (v:=.int 6) gm ⟨_,rfl⟩ rfl)) fun _=>(jV (gM (eJ (aG (t:=tb (kR W c rows)) Wl r6 (aj (ae 0 rfl) (aj (ae 1 rfl) aw)) ⟨W,c,rows,mi.sh,n6,mi.c9,rfl,rfl⟩)))))))) ?_) ?_
 ·rw[el,tw (by omega),tw (by omega),mi.ar];rfl
 refine ax (aP 2 (Ev.s (aG Vo r3 (aj (ae 1 rfl) aw) ⟨W,rows,w0,w1,by omega,rfl,rfl⟩)) (fun _=>mW.nd)) ?_;obtain⟨b0,bd,bs⟩:=C6 w0 rows;have bW:=ajq w0 bd;have lf:=PK mi.sh n6 mi.c9 mi.ne A6 mi.ar;refine ax (i5 3 (j6 (dD.as (d:=.lst ((L0 W rows).map dis)) (j7 (own:=["row"]) (fr:=[2]) rows (cn W) (fun r=>aU (r.map (gf W (cm W rows)))) (bR (ae 1 rfl) rfl) (bJ 0 (fun _=>by show List.Nodup (["row", "bottom"]:List Str);decide)) (by decide) (by omega) (fun r hr=>⟨_,rfl,by
  have hl:=(mi.sh.row r hr).len;exact Ev.to (fL (own:=["share"]) (fr:=[1]) r (fun s=>dF (fW W s)) (fun s=>ti (gf W (cm W rows) s)) (fun i=>sL ["row", "bottom"] ⟨rfl,by decide +kernel,by decide +kernel,by decide +kernel,by decide +kernel⟩ fun y hy=>jQ _ _ y hy) (bR (ae 0 rfl) rfl) (bJ 0 (fun _=>by show List.Nodup (["share", "bottom"]:List Str);decide)) (by decide) (by omega) (fun s hs=>⟨_,rfl,by
   have sb:=(mi.sh.row r hr).b s hs;have q0:=dI (W:=W) (s:=s) w0;have q1:=yA (W:=W) (s:=s) w0;have p1:=uH (W:=W) (s:=s) w0;have m0 : 0<=cm W rows / (fW W s).2:=ajf (by omega) (by omega);have m1:cm W rows / (fW W s).2<=cm W rows:=aja _ (by omega);exact aG wI r1 (aj (ae 0 rfl) (aj (ae 1 rfl) aw)) ⟨(fW W s).1,(fW W s).2,cm W rows,q0,kU (by omega) (by omega),ck (n:=250) (by omega) (by decide),kU m0 (by omega),rfl,rfl⟩⟩) (fun dd=>by cases dd<;>rfl)) (by show Tr.ow _=Tr.ow _;rw[gz];rfl)⟩) (fun dd=>by cases dd<;>rfl)) (by rw[dk];unfold L0;rw[gz];congr 1;exact ma fun r _=>eZ _))) (fun i=>bV) (fun _=>mW.nd)) ?_
 refine ax (aP 4 (Ev.s (fD aw (DO _))) (fun _=>mW.nd)) ?_;have pw:∀ a:Int,a<2 ^ 70->a*9 ^ 48<2 ^ 224:=fun a ha=>by omega
 refine tU (fun s:Rg=>[some (.fz (dis c)),some (.fz (bI W rows)),some (ti s.B),some (.fz (.lst (s.L.map dis))),some (.ow (s.acc.map kz)),none,none]) (MxW c (uQ W c rows)) (fun s=>decide (0<s.R)) (fun s=>s.f) ⟨L0 W rows,cm W rows,cm W rows,[],48⟩ rfl ⟨lf,C2 lf,b0,pw (cm W rows) (by omega),pw (cm W rows) (by omega),rfl,by show 0+48<=48;decide⟩ (fun s ok=>?_) (fun s ok hp=>?_) (fun s ok hp=>?_)
 ·have lf:=ok.lf;have Lp:=Pe.mpr lf.ne;have ro:=lf.ig (a:=0) (by decide) (by omega);exact cK.to (Et.s (jX (Dt T.Ek (dU (d:=dis (s.L.getD (0:Int).toNat [])) (ae 3 rfl) av rfl (C4 (by decide) (by omega))) rfl) av)) (by rw[ro.2.2])
 ·obtain⟨L,R,B,acc,f⟩:=s;obtain⟨lf,me,B0,Bb,Rb,eq,len⟩:=ok;simp only at lf me B0 Bb Rb eq len;have R0 : 0<R:=Cn hp;have dl:=lf.y4 R0;have g:=lf.Fs dl.1;have wo:=lf.TQ g;have mp:=Nm lf g;obtain⟨f',rfl⟩:∃ f',f=f'+1:=⟨f-1,by omega⟩
  have R1:=PL (by omega) Rb;have B1:=PL (by omega) Bb;have kr:=lf.next g wo
  have ls:=lf.less g wo;have ub:(wF c L R (bN c L R))=((wF c L R (bN c L R)).1,(wF c L R (bN c L R)).2):=rfl;have eq2:acc++(((lT (wF c L R (bN c L R)).1 (B*(wF c L R (bN c L R)).2),lB (wF c L R (bN c L R)).1 (B*(wF c L R (bN c L R)).2)),bN c L R)::iL c f' (du (wF c L R (bN c L R)).1 (wF c L R (bN c L R)).2 L (bN c L R)) (R*(wF c L R (bN c L R)).2-(wF c L R (bN c L R)).1) (B*(wF c L R (bN c L R)).2))=uQ W c rows:=by
   rw[<- eq];show _=acc++iL c (f'+1) L R B;unfold iL;rw[lp R0];cases f'<;>rfl
  have hww:wF c L R (bN c L R)=wF c L R (bN c L R):=rfl;generalize hd:bN c L R=d at dl g wo kr ls eq2;generalize hw:wF c L R d=wt at wo kr ls eq2;obtain⟨p,q⟩:=wt;simp only at wo kr ls eq2;have q0:=wo.q0;have q9:=wo.q9;have p0:=wo.p0;have Bq:B*q<=B*9:=GG q9 (by omega);have Rq:R*q<=R*9:=GG q9 (by omega);have TU : 0<B*q:=NJ B0 q0;refine⟨⟨du p q L d,R*q-p,B*q,acc++[((lT p (B*q),lB p (B*q)),d)],f'⟩,⟨kr,by show jH c (du p q L d) (R*q-p)<=f';omega,TU,pow_step Bb Bq,pow_step (b:=R*q-p) Rb (by omega),by rw[<- eq2];show acc++[_]++_=_;rw[ID];rfl,by show(acc++[_]).length+f'<=48;rw[qr,EM];omega⟩,akd _,?_⟩;show bw _ _ [some (.fz (dis c)),some (.fz (bI W rows)),some (ti B),some (.fz (.lst (L.map dis))),some (.ow (acc.map kz)),none,none] _;refine ax (aP 5 (bx.to (t':=aU d) (Ev.s (aG WW (br _) (aj (ae 0 rfl) (aj (ae 3 rfl) aw)) ⟨c,L,R,lf,R0,by omega,rfl,rfl⟩)) (by rw[hd])) (fun _=>mW.nd)) ?_;show bw _ _ [some (.fz (dis c)),some (.fz (bI W rows)),some (ti B),some (.fz (.lst (L.map dis))),some (.ow (acc.map kz)),some (aU d),none] _;have gds:zF [some (.fz (dis c)),some (.fz (bI W rows)),some (ti B),some (.fz (.lst (L.map dis))),some (.ow (acc.map kz)),some (aU d),none]=true:=by
   show(true&&(true&&(true&&(true&&(jG (acc.map kz)&&(jG (d.map fun n=>Tr.fz (di n))&&(true&&true)))))))=true;rw[acm,xQ fun t ht=>by obtain⟨x,_,rfl⟩:=i4.mp ht;rfl];rfl
  refine ax (aP 6 (Ev.pkL (t:=tF (p,q)) (aG VY r3 (aj (ae 0 rfl) (aj (ae 3 rfl) (aj (ae 5 rfl) aw))) ⟨c,L,R,d,lf,g,by omega,?_,by rw[hw]⟩) rfl gds) (fun _=>mW.nd)) ?_
  rotate_left
  ·show[_,_,er (aU d)]=_;rw[eZ];rfl
  refine ax (aP 3 (Ev.pk (t:=fO (du p q L d)) (aG Wm r1 (aj (ae 3 rfl) (aj (ae 5 rfl) (aj (ae 6 rfl) aw))) ⟨c,L,R,d,p,q,lf,g,by omega,q0,q9,?_,rfl⟩) (MM _)) (fun _=>mW.nd)) ?_
  rotate_left
  ·show[_,er (aU d),_]=_;rw[eZ];rfl
  refine tT (d:=.lst ((du p q L d).map dis)) 3 rfl (lM _) ?_;refine ax (aP 2 (Ev.s (d9 (ae 2 rfl) (aY (d:=di q) (ae 6 rfl) av rfl rfl) ⟨kU (by omega) (by omega),kU (by omega) (by omega)⟩)) (fun _=>mW.nd)) ?_;show bw _ _ [some (.fz (dis c)),some (.fz (bI W rows)),some (ti (B*q)),some (.fz (.lst ((du p q L d).map dis))),some (.ow (acc.map kz)),some (aU d),some (tF (p,q))] _;refine ax (W3 4 5 (us:=acc.map kz) (t:=aU d) (d:=dF (lT p (B*q),lB p (B*q))) (by decide) rfl rfl (Ev.s (aG cq r2 (aj (aY (d:=di p) (ae 6 rfl) av rfl rfl) (aj (ae 2 rfl) aw)) ⟨p,B*q,TU,kU (by omega) (by omega),rfl,rfl⟩)) (by rw[aa];omega) (hps:=fun i τ hτ => ug (sE OF ajF ajG t6 (pv 4) (aX (m8 (aX hτ (aX (pv 5) cu))) cu)))) ?_;refine bw.to (MN (ρ2:=[some (.fz (dis c)),some (.fz (bI W rows)),some (ti (B*q)),some (.fz (.lst ((du p q L d).map dis))),some (.ow (acc.map kz++[.tp [tF (lT p (B*q),lB p (B*q)),aU d]])),none,none]) ⟨[6],rfl⟩) ?_;show _=Out.nx [_,_,_,_,some (Tr.ow (List.map _ (_++[_]))),_,_];rw[Cs];rfl
 ·obtain⟨L,R,B,acc,f⟩:=s;have eq:=ok.eq;simp only at eq hp;have hR:=ajO hp;have em:iL c f L R B=[]:=by
   cases f with
   |zero=>rfl
   |succ f=>unfold iL;rw[mf hR]
  rw[em,FF]at eq;rw[<- eq];exact aF (oG 4 rfl)
end
section
variable {P:Program}{w:World}{K:Frag}{mg:Str->Option Value}{base:Heap}
theorem aag {c:LI}{f:Nat}{L:LL}{R B:Int}(h:¬ 0<R):iL c f L R B=[]:=by
 cases f with
 |zero=>rfl
 |succ f=>unfold iL;rw[mf h]
theorem aah (a x:Int):bF [] a x=0:=rfl
theorem oz (m:Int×LI)(M:List (Int×LI))(a x:Int):bF (m::M) a x=(if af m.2 a=x then m.1 else 0)+bF M a x:=by
 unfold bF;rw[Lm];by_cases h:af m.2 a=x
 ·rw[lp (u4 h),lp h,i8,ue]
 ·rw[mf (by rw[tw h];decide),mf h,Zp]
structure Hf (c:LI) (L:LL) (R B D:Int) (M:List (Int×LI)):Prop where
 D0 : 0<D
 bd:∃ E:Int,0<E/\D=B*E
 lE:(M.map (·.1)).sum*B=R*D
 wt:∀ a x:Int,0<=a->a<L.length->0<=x->x<=c.length->bF M a x*B=af (L.getD a.toNat []) x*D
 pos:∀ m ∈ M,0<m.1
 len:∀ m ∈ M,m.2.length=L.length
 cF:∀ m ∈ M,∀ x ∈ m.2,0<=x/\x<=c.length
 cnt:∀ m ∈ M,∀ k:Int,0<=k->k<c.length->(m.2.count k:Int)<=af c k
 ent:∀ m ∈ M,∀ a:Int,0<=a->a<L.length->0<af (L.getD a.toNat []) (af m.2 a)
 sp:∀ m ∈ M,∀ k:Int,0<=k->k<c.length->bq c L R k=0->bG c m.2 k=0
 nd:(M.map (·.2)).Nodup
 ml:M.length<=jH c L R
theorem Hf.nil {c:LI}{L:LL}{R B:Int}(lf:bX c L R)(B0 : 0<B)(h:¬ 0<R):Hf c L R B B []:=by
 have R0:=lf.R0;have e:R=0:=by omega
 refine⟨B0,⟨1,by decide,(ai6 B).symm⟩,by rw[e];show 0*B=0*B;rfl,fun a x a0 a1 x0 x1=>?_,(fun _ z=>nomatch z),(fun _ z=>nomatch z),(fun _ z=>nomatch z),(fun _ z=>nomatch z),(fun _ z=>nomatch z),(fun _ z=>nomatch z),.nil,DO _⟩;have ro:=lf.ig a0 a1;have h1:=Pz ro.2.1 x;have h2:=LR ro.2.1 x;rw[aah,show af (L.getD a.toNat []) x=0 by omega]
theorem CC {u v p q B D E:Int}(q0 : 0<q)(hD:D=B*q*E)(h:u*(B*q)=(v*q-p)*D):(p*E+u)*B=v*D:=by
 refine EN (show q ≠ 0 by omega) ?_;have h1:p*E*(B*q)=p*D:=by rw[hD,ES,Me E]
 rw[ES,SI,h1,h,ak9,BN v q D];omega
theorem Y6 {c:LI}:∀ (f:Nat) {L:LL} {R B:Int},bX c L R->0<B->jH c L R<=f->∃ D M,Hf c L R B D M/\iL c f L R B=M.map (fun m=>(fW D m.1,m.2))/\D<=B*9 ^ f:=by
 intro f
 induction f with
 |zero =>
  intro L R B lf B0 me;by_cases R0 : 0<R
  ·have:=Nm lf (lf.Fs (lf.y4 R0).1);omega
  ·exact⟨B,[],.nil lf B0 R0,rfl,by show B<=B*1;omega⟩
 |succ f ih =>
  intro L R B lf B0 me;by_cases R0 : 0<R
  ·have g:=lf.Fs (lf.y4 R0).1;have wo:=lf.TQ g;have kr:=lf.next g wo
   have ls:=lf.less g wo;have em:iL c (f+1) L R B=((lT (wF c L R (bN c L R)).1 (B*(wF c L R (bN c L R)).2),lB (wF c L R (bN c L R)).1 (B*(wF c L R (bN c L R)).2)),bN c L R)::iL c f (du (wF c L R (bN c L R)).1 (wF c L R (bN c L R)).2 L (bN c L R)) (R*(wF c L R (bN c L R)).2-(wF c L R (bN c L R)).1) (B*(wF c L R (bN c L R)).2):=by
    conv=>lhs;unfold iL
    rw[lp R0]
   generalize bN c L R=d at g wo kr ls em;generalize (wF c L R d).1=p at wo kr ls em;generalize (wF c L R d).2=q at wo kr ls em;have q0:=wo.q0;have q9:=wo.q9;have p0:=wo.p0;have Bq : 0<B*q:=NJ B0 q0;obtain⟨D,M,ms,e2,hD⟩:=ih kr Bq (by omega);obtain⟨E,E0,eD⟩:=ms.bd;have D0:=ms.D0;have lL:=lP (p:=p) (q:=q) g.dl;have Eu:∀ a x:Int,0<=a->a<L.length->0<=x->x<=c.length->af ((du p q L d).getD a.toNat []) x=af (L.getD a.toNat []) x*q-if af d a=x then p else 0:=fun a x a0 a1 x0 x1=>by
    have ro:=lf.ig a0 a1;rw[ux g.dl a0 a1,xv (g.pos a a0 a1).1.1 x0 (by rw[ro.1];omega)]
   have mr:∀ m ∈ M,∀ a:Int,0<=a->a<L.length->0<=af m.2 a/\af m.2 a<=c.length:=fun m hm a a0 a1=>ms.cF m hm _ (iZ a0 (by rw[ms.len m hm,lL];exact a1))
   refine⟨D,(p*E,d)::M,⟨D0,⟨q*E,NJ q0 E0,by rw[eD,ES]⟩,?_,fun a x a0 a1 x0 x1=>?_,fun m hm=>?_,fun m hm=>?_,fun m hm=>?_,fun m hm=>?_,fun m hm a a0 a1=>?_,fun m hm k k0 k1 hk=>?_,?_,?_⟩,?_,?_⟩
   ·rw[i8,ue];exact CC q0 eD ms.lE
   ·have hw:=ms.wt a x a0 (by rw[lL];exact a1) x0 x1;rw[Eu a x a0 a1 x0 x1]at hw;rw[oz];show((if af d a=x then p*E else 0)+_)*B=_;by_cases e:af d a=x
    ·rw[lp e]at hw ⊢;exact CC q0 eD hw
    ·rw[mf e]at hw ⊢;have:=CC (p:=0) q0 eD hw;rw[LG]at this;exact this
   ·rcases gr.mp hm with rfl | hm
    ·exact NJ p0 E0
    ·exact ms.pos m hm
   ·rcases gr.mp hm with rfl | hm
    ·exact g.dl
    ·rw[ms.len m hm,lL]
   ·rcases gr.mp hm with rfl | hm
    ·exact g.dr
    ·exact ms.cF m hm
   ·rcases gr.mp hm with rfl | hm
    ·intro k k0 k1;have:=(g.u k k0 k1).1;unfold bG at this;show(d.count k:Int)<=_;omega
    ·exact ms.cnt m hm
   ·rcases gr.mp hm with rfl | hm
    ·exact(g.pos a a0 a1).2
    ·have h1:=ms.ent m hm a a0 (by rw[lL];exact a1);have h2:=mr m hm a a0 a1;rw[Eu a _ a0 a1 h2.1 h2.2]at h1;have h3:=lf.ge a (af m.2 a);rcases Zs h3 with z | z
     ·exact z
     ·rw[<- z,LG]at h1;split at h1<;>omega
   ·rcases gr.mp hm with rfl | hm
    ·exact(g.u k k0 k1).2.2 hk
    ·refine ms.sp m hm k k0 k1 ?_;rw[uy lf g k0 k1,hk,(g.u k k0 k1).2.2 hk,LG,akH];rfl
   ·rw[i8];refine BB.mpr ⟨fun z=>?_,ms.nd⟩;obtain⟨m,hm,Ab⟩:=i4.mp z;have Ab:m.2=d:=Ab;rcases wo.hit with⟨a,a0,a1,e⟩ | ⟨k,k0,k1,hu,e⟩
    ·have h1:=ms.ent m hm a a0 (by rw[lL];exact a1);rw[Ab,Eu a _ a0 a1 (g.pos a a0 a1).1.1 (g.pos a a0 a1).1.2,lp rfl]at h1;omega
    ·have h1:=ms.sp m hm k k0 k1 (by rw[uy lf g k0 k1];omega);rw[Ab]at h1;omega
   ·have:=ms.ml;rw[AN];omega
   ·rw[em,e2,i8];have:(lT p (B*q),lB p (B*q))=fW D (p*E):=kH D0 (by omega) (by rw[eD,ES p E,Me E]);rw[this]
   ·have h9:B*q*9 ^ f<=B*9*9 ^ f:=AL (GG q9 (by omega)) (Int.pow_nonneg (by decide));rw[Int.pow_succ,Me (9 ^ f) 9,<- ES];omega
  ·refine⟨B,[],.nil lf B0 R0,aag R0,?_⟩;have h1:(1:Int)<=9 ^ (f+1):=by
    have:(1:Nat)<=9 ^ (f+1):=zd Nat.one_le_two_pow (Nat.pow_le_pow_left (by decide) (f+1))
    exact_mod_cast this
   have:B*1<=B*9 ^ (f+1):=GG h1 (by omega);omega
theorem Np {α:Type}(h : α->Nat)(z : α)(hz:h z=0)(l:List α){n:Nat}(hn:l.length<=n):((ah n).map fun a=>h (l.getD a.toNat z)).sum=(l.map h).sum:=by
 have e:((ah n).map fun a=>h (l.getD a.toNat z))=l.map h++List.replicate (n-l.length) 0:=by
  refine akj (by rw[aa,bM,qr,aa,aj2];omega) fun i h1 h2=>?_
  rw[aa,bM]at h1;rw[TM];have e0:(ah n)[i]'(by rw[bM];exact h1)=(i:Int):=by
   have:=Nn (n:=n) (k:=(i:Int)) (by omega) (by omega);rw[zw,ab (by rw[bM];exact h1)]at this;exact xw this
  rw[e0,zw,ba];by_cases hi:i<l.length
  ·rw[List.getElem_append_left (by rw[aa];exact hi),TM,ab hi];rfl
  ·rw[List.getElem_append_right (by rw[aa];omega),List.getElem_replicate,nt (by omega)];exact hz
 rw[e,ai4,List.sum_replicate_nat,Nat.mul_zero,ak5]
theorem Bz {α:Type}(p : α->Bool):∀ l:List α,l.countP p=(l.map fun x=>if p x=true then 1 else 0).sum
 |[] => rfl
 |x::l=>by
  rw[Lo,i8,ue,Bz p l];omega
theorem X3 {L:LL}(A6:L.length<=6)(r7:∀ r ∈ L,r.length<=7):lS.countP (fun s=>decide (0<af (L.getD s.1.toNat []) s.2))=(L.map fun r=>r.countP fun y=>decide (0<y)).sum:=by
 unfold lS;rw[List.countP_flatMap];have e:((ah 6).map fun a=>((ah 7).map fun x=>(a,x)).countP fun s:Int×Int=>decide (0<af (L.getD s.1.toNat []) s.2))=(ah 6).map fun a=>(fun r:LI=>(ah 7).countP fun x=>decide (0<af r x)) (L.getD a.toNat []):=ma fun a _=>by
  rw[ak7];rfl
 show((ah 6).map fun a=>((ah 7).map fun x=>(a,x)).countP fun s:Int×Int=>decide (0<af (L.getD s.1.toNat []) s.2)).sum=_;rw[e,Np (fun r:LI=>(ah 7).countP fun x=>decide (0<af r x)) [] (by decide) L A6];congr 1;refine ma fun r hr=>?_
 show(ah 7).countP (fun x=>decide (0<af r x))=r.countP fun y=>decide (0<y)
 rw[Bz,Bz];exact Np (fun y:Int=>if decide (0<y)=true then 1 else 0) 0 rfl r (r7 r hr)
structure Ft (W:Int) (c:LI) (rows:LL) (D:Int) (M:List (Int×LI)):Prop where
 D0 : 0<D
 D1:D<2 ^ 230
 eq:uQ W c rows=M.map fun m=>(fW D m.1,m.2)
 lE:(M.map (·.1)).sum=D
 wt:∀ a x:Int,0<=a->a<rows.length->0<=x->x<=c.length->fW D (bF M a x)=fW W (af (rows.getD a.toNat []) x)
 pos:∀ m ∈ M,0<m.1
 len:∀ m ∈ M,m.2.length=rows.length
 cF:∀ m ∈ M,∀ x ∈ m.2,0<=x/\x<=c.length
 cnt:∀ m ∈ M,∀ k:Int,0<=k->k<c.length->(m.2.count k:Int)<=af c k
 nd:(M.map (·.2)).Nodup
 ml:M.length<=c.length+(rows.map fun r=>r.countP fun s=>decide (0<(fW W s).1)).sum
 tQ:M.length<=48
theorem yF.sem {W:Int}{c:LI}{rows:LL}(mi:yF W c rows):∃ D M,Ft W c rows D M:=by
 have w0:=mi.sh.w0;have w1:=mi.sh.w1;have lf:=PK mi.sh mi.n6 mi.c9 mi.ne mi.A6 mi.ar;obtain⟨b0,bd,bs⟩:=C6 w0 rows;have bW:=ajq w0 bd;obtain⟨D,M,ms,eq,hD⟩:=Y6 48 lf b0 (C2 lf);have ll:(L0 W rows).length=rows.length:=by unfold L0;rw[aa]
 have n6:=mi.n6;have ac5:∀ r ∈ rows,r.length=c.length+1:=fun r hr=>by
  have:=(lf.row (r.map (gf W (cm W rows))) (i4.mpr ⟨r,hr,rfl⟩)).1;rw[aa]at this;exact this
 refine⟨D,M,ms.D0,?_,eq,?_,fun a x a0 a1 x0 x1=>?_,ms.pos,fun m hm=>by rw[ms.len m hm,ll],ms.cF,ms.cnt,ms.nd,?_,zd ms.ml (C2 lf)⟩
 ·have:cm W rows*9 ^ 48<2 ^ 230:=by omega
  omega
 ·have:=ms.lE;rw[Me (cm W rows) D]at this;exact EN (by omega) this
 ·have h1:=ms.wt a x a0 (by rw[ll];exact a1) x0 x1;have hr:rows.getD a.toNat [] ∈ rows:=uv a0 a1;have e:af ((L0 W rows).getD a.toNat []) x=gf W (cm W rows) (af (rows.getD a.toNat []) x):=by
   unfold L0;rw[getD_map' (fun r:LI=>r.map (gf W (cm W rows))) rfl,Oq w0]
  rw[e]at h1;have hs:af (rows.getD a.toNat []) x ∈ rows.getD a.toNat []:=iZ x0 (by rw[ac5 _ hr];omega);have h2:=PJ w0 (bs _ hr _ hs);have h3:bF M a x*W=af (rows.getD a.toNat []) x*D:=by
   refine EN (show cm W rows ≠ 0 by omega) ?_;rw[BN,h1,BN,h2,BN]
  exact kH w0 (by have:=ms.D0;omega) h3
 ·have h1:=ms.ml;have h2:(ah c.length).countP (fun k=>decide (0<bq c (L0 W rows) (cm W rows) k))<=c.length:=by
   have:=akb (p:=fun k=>decide (0<bq c (L0 W rows) (cm W rows) k)) (l:=ah c.length);rw[bM]at this;exact this
  have h3:=X3 (L:=L0 W rows) (by rw[ll];exact mi.A6) fun r hr=>by
   have:=(lf.row r hr).1;omega
  have h4:((L0 W rows).map fun r=>r.countP fun y=>decide (0<y))=rows.map fun r=>r.countP fun s=>decide (0<(fW W s).1):=by
   unfold L0;rw[gz];refine ma fun r hr=>?_
   show(r.map (gf W (cm W rows))).countP _=_;rw[ak7];refine List.countP_congr fun s hs=>?_
   have q0:=dI (W:=W) (s:=s) w0;obtain⟨e,he⟩:=bs r hr s hs;have e0 : 0<e:=by
    rcases aji 0 e with z | z
    ·exact z
    ·have:=GG z (show 0<=(fW W s).2 by omega);rw[akH,<- he]at this;omega
   have hp:gf W (cm W rows) s=(fW W s).1*e:=by
    unfold gf;rw[he,LB _ (by omega)]
   show decide (0<gf W (cm W rows) s)=true ↔ decide (0<(fW W s).1)=true;rw[Na,Na,hp]
   constructor
   ·intro z;rcases aji 0 (fW W s).1 with y | y
    ·exact y
    ·have:=AL y (show 0<=e by omega);omega
   ·exact fun z=>NJ z e0
  unfold jH at h1;rw[h3,h4]at h1;omega
end
section
variable {P:Program}{w:World}{K:Frag}{mg:Str->Option Value}{base:Heap}
abbrev rA:Stmt:=top 55
theorem Xc:aZ ["mix"] ["mix"] (aq rA):=bt
def Ac (m:(Int×Int)×LI):Dv:=.tup [mS m.1,dis m.2]
def CD (dd:List Dv)(t:Tr):Prop:=∃ mix:List ((Int×Int)×LI),vt (mix.map (·.1.2))/\mix.length<=1000/\dd=[.lst (mix.map Ac)]/\t=ti (cG 1 (mix.map (·.1.2)))
theorem Xd {f f1:Addr}{fd aI:FuncData}{k:Nat}(F:aV K "tickets" "tickets" rA f fd)(T:Txt mg)(wk:Kn P w K mg base ak (k+2) "common_bottom" f1 aI ["some"] (spT K C3)):aJ P w K mg base ak (k+3) f fd ["mix"] (spT K CD):=by
 refine bD F.d Xc (fun dd t h=>by obtain⟨_,_,_,rfl,_⟩:=h;rfl) fun dd t h=>?_
 obtain⟨mix,hb,hz,rfl,rfl⟩:=h;refine⟨_,.inl rfl,?_⟩;have big : 1000<sizeLine:=by decide
 refine aF (bL (Ev.s (aG wk (br _) (aj (sJ (own:=["weight", "deal"]) (fr:=[]) (fun i=>bV) (bR (ae 0 rfl) rfl) (eK 0 1 (fun _=>by show List.Nodup (["weight", "deal"]:List Str);decide)) (by decide) (fun k=>true) (fun k=>.fz (mS (((mix.map (·.1))[k]?).getD (0,0)))) ?_ (fun k d hd=>?_) (fun dd=>?_)) aw) ⟨mix.map (·.1),by rw[gz];exact hb,?_,by rw[gz];rfl⟩)))
 ·rw[aa];omega
 ·obtain⟨m,hm,rfl⟩:=dH hd;refine⟨_,rfl,yd,fun _=>?_⟩;rw[ee,hm];exact ae 0 rfl
 ·match dd with
  |[] => rfl
  |[_] => rfl
  |_::_::_=>rfl
 ·show[Dv.lst _]=_;rw[ai8.mpr (fun _ _=>rfl),kG,gz,aa];have:=tS (mix.map (·.1)) (0,0) mS;rw[aa]at this;rw[<- this]
  rfl
def dY (L:Int)(mix:List ((Int×Int)×LI)):Int:=(mix.map fun m=>m.1.1*(L / m.1.2)).sum
theorem B2 (L:Int)(mix:List ((Int×Int)×LI))(m:(Int×Int)×LI):dY L (mix++[m])=dY L mix+m.1.1*(L / m.1.2):=by unfold dY;simp[ai4]
structure nB (mix:List ((Int×Int)×LI)):Prop where
 vv:vt (mix.map (·.1.2))
 len:mix.length<=1000
 Fu:∀ m ∈ mix,1<=m.1.1/\m.1.1.natAbs<2 ^ 4000
theorem nB.pos {mix:List ((Int×Int)×LI)}(h:nB mix):∀ b ∈ mix.map (·.1.2),0<b:=fun b hb=>by
 obtain⟨M,_,_,h3⟩:=h.vv;exact(h3 b hb).1
theorem nB.L {mix:List ((Int×Int)×LI)}(h:nB mix) : 0<cG 1 (mix.map (·.1.2))/\(cG 1 (mix.map (·.1.2))).natAbs<2 ^ 4000/\∀ b ∈ mix.map (·.1.2),b ∣ cG 1 (mix.map (·.1.2)):=by
 have:=h.vv.lc (mix.map (·.1.2)).length;rw[Mn]at this;exact⟨this.1,this.2,(xK (m:=1) (by decide) h.pos).2⟩
theorem nB.one {mix:List ((Int×Int)×LI)}(h:nB mix){m:(Int×Int)×LI}(hm:m ∈ mix) : 0<m.1.2/\m.1.2.natAbs<2 ^ 4000/\1<=cG 1 (mix.map (·.1.2)) / m.1.2/\cG 1 (mix.map (·.1.2)) / m.1.2<=cG 1 (mix.map (·.1.2)):=by
 obtain⟨l1,l2,l3⟩:=h.L;have hb:=h.pos _ (i4.mpr ⟨m,hm,rfl⟩);have hd:=l3 _ (i4.mpr ⟨m,hm,rfl⟩);have hle:=ajq l1 hd;refine⟨hb,by omega,?_,aja _ (by omega)⟩;exact Int.le_ediv_of_mul_le hb (by omega)
theorem B3 {L:Int}:∀ {mix:List ((Int×Int)×LI)},(∀ m ∈ mix,0<=m.1.1*(L / m.1.2))->∀ i j,i<=j->dY L (mix.take i)<=dY L (mix.take j)
 |[],_,i,j,_=>by simp
 |m::ms,h,0,j,_=>by
  have:∀ (l:List ((Int×Int)×LI)),(∀ x ∈ l,0<=x.1.1*(L / x.1.2))->0<=dY L l:=fun l=>by
   induction l with
   |nil=>intro _;exact YE _
   |cons x l ih =>
    intro hx;have h1:=hx x (.head _);have h2:=ih fun y hy=>hx y (.tail _ hy)
    show 0<=(List.map _ (x::l)).sum;rw[i8,ue];unfold dY at h2;omega
  exact this _ fun x hx=>h x (aba hx)
 |m::ms,h,i+1,j+1,dZ=>by
  have:=B3 (mix:=ms) (fun x hx=>h x (.tail _ hx)) i j (by omega);show(List.map _ (m::ms.take i)).sum<=(List.map _ (m::ms.take j)).sum;rw[i8,i8,ue,ue];unfold dY at this;omega
abbrev rB:Stmt:=top 56
theorem rk:aZ ["mix", "number", "many", "end", "weight", "deal"] ["mix", "number"] (aq rB):=bt
def C8 (dd:List Dv)(t:Tr):Prop:=∃ (mix:List ((Int×Int)×LI)) (n:Int) (j:Nat) (m:(Int×Int)×LI),nB mix/\mix[j]?=some m/\dY (cG 1 (mix.map (·.1.2))) (mix.take j)<=n/\n<dY (cG 1 (mix.map (·.1.2))) (mix.take (j+1))/\dd=[.lst (mix.map Ac),di n]/\t=.ow ((m.2.map di).map .fz)
theorem Xe {f f1 f2:Addr}{fd aI fd2:FuncData}{k:Nat}(F:aV K "deal_at" "deal_at" rB f fd)(T:Txt mg)(B4:Kn P w K mg base ak (k+3) "tickets" f1 aI ["mix"] (spT K CD))(wI:Kn P w K mg base ak (k+1) "parts_of" f2 fd2 ["one", "bottom"] (spT K ym)):aJ P w K mg base ak (k+4) f fd ["mix", "number"] (spT K C8):=by
 refine bD F.d rk (fun dd t h=>by obtain⟨_,_,_,_,_,_,_,_,rfl,_⟩:=h;rfl) fun dd t h=>?_
 obtain⟨mix,n,j,m,aA,hj,h1,h2,rfl,rfl⟩:=h;refine⟨_,.inl rfl,?_⟩;obtain⟨l1,l2,l3⟩:=aA.L;have one:=fun m hm=>aA.one (m:=m) hm
 generalize hLe:cG 1 (mix.map (·.1.2))=L at h1 h2 l1 l2 l3 one;have nn:∀ x ∈ mix,0<=x.1.1*(L / x.1.2):=fun x hx=>by
  have a:=aA.Fu x hx;have b:=one x hx;exact Nd (by omega) (by omega)
 refine ax (aP 2 (bx.to (t':=ti L) (Ev.s (aG B4 (br _) (aj (ae 0 rfl) aw) ⟨mix,aA.vv,aA.len,rfl,rfl⟩)) (by rw[hLe])) (fun _=>rk.nd)) ?_;refine ax (aP 3 (Ev.s av) (fun _=>rk.nd)) ?_;have jl:j<mix.length:=(ir.mp hj).1;have n0 : 0<=n:=aka (B3 nn 0 j (DO _)) h1;have turn:∀ (i:Nat) (x:(Int×Int)×LI),mix[i]?=some x->ym [mS x.1,di L] (ti (x.1.1*(L / x.1.2))):=fun i x hx=>by
  have hm:=mT hx;have a:=aA.Fu x hm;have b:=one x hm;exact⟨x.1.1,x.1.2,L,b.1,i6 b.2.1,i6 a.2,i6 (by omega),rfl,rfl⟩
 refine xI (Lz (bp.s (bR (ae 0 rfl) rfl)) (eK 4 5 (fun _=>rk.nd)) (fun k=>[some (.fz (.lst (mix.map Ac))),some (ti n),some (ti L),some (ti (dY L (mix.take k))),none,none]) j (by rw[aa];omega) rfl (fun _=>rfl) (fun i d hi hd=>?_) (.inr ?_))
 ·obtain⟨x,hx,rfl⟩:=dH hd;refine⟨_,_,rfl,ax (aP 3 (bx.to (t':=ti (dY L (mix.take (i+1)))) (Ev.s (eI (ae 3 rfl) (aG wI (by show _<=k+3;omega) (aj (ae 4 rfl) (aj (ae 2 rfl) aw)) (turn i x hx)))) (by rw[fA hx,B2])) (fun _=>rk.nd))
   (aF (cH (Et.s (Ew.et (si (Qc (ae 1 rfl) av) fun _=>(rP (jW (ae 1 rfl) (ae 3 rfl)))))) ?_)),[4,5],rfl⟩
  have:=B3 nn (i+1) j (by omega);rw[tw (show ¬ n<dY L (mix.take (i+1)) by omega),ajv]
 ·refine⟨_,_,_,by rw[ee,hj];rfl,rfl,ax (aP 3 (bx.to (t':=ti (dY L (mix.take (j+1)))) (Ev.s (eI (ae 3 rfl) (aG wI (by show _<=k+3;omega) (aj (ae 4 rfl) (aj (ae 2 rfl) aw)) (turn j m hj)))) (by rw[fA hj,B2])) (fun _=>rk.nd))
   (aF (oN (Et.s (Ew.et (si (Qc (ae 1 rfl) av) fun _=>(rP (jW (ae 1 rfl) (ae 3 rfl)))))) ?_ (aF (bL (Ev.s (oE T.jA (ae 5 rfl) (.inl rfl))))))),rfl⟩
  rw[u4 n0,u4 h2]
  rfl
end
section
variable {P:Program}{w:World}{K:Frag}{mg:Str->Option Value}{base:Heap}
abbrev qu:Stmt:=top 65
theorem Vp:aZ ["_law_script", "_law_k"] ["_law_script", "_law_k"] (aq qu):=bt
def yG (dd:List Dv)(t:Tr):Prop:=∃ (ns:LI) (k:Int),0<=k/\dd=[dis ns,di k]/\t=ti (bP ns k)
theorem Vq {f:Addr}{fd:FuncData}{k:Nat}(F:aV K "_law_cell_at" "_law_cell_at" qu f fd)(T:Txt mg):aJ P w K mg base ak (k+1) f fd ["_law_script", "_law_k"] (spT K yG):=by
 refine bD F.d Vp (fun dd t h=>by obtain⟨_,_,_,rfl,_⟩:=h;rfl) fun dd t h=>?_
 obtain⟨ns,j,hj,rfl,rfl⟩:=h;refine⟨_,.inl rfl,?_⟩;by_cases hl:j<ns.length
 ·refine xI (oN (Et.s (jW (ae 1 rfl) (bS T.bQ (ae 0 rfl) (.inl rfl)))) ?_ (aF (bL (Ev.s (dU (ae 0 rfl) (ae 1 rfl) rfl ?_)))))
  ·rw[aa];exact u4 hl
  ·exact cell_in hj hl
 ·refine ax (cH (Et.s (jW (ae 1 rfl) (bS T.bQ (ae 0 rfl) (.inl rfl)))) ?_) ?_
  ·rw[aa];exact tw hl
  ·rw[cell_out hj (by omega)];exact aF (bL (Ev.s av))
abbrev qN:Stmt:=top 69
theorem VZ:aZ ["_law_found"] ["_law_found"] (aq qN):=bt
def yp (dd:List Dv)(t:Tr):Prop:=∃ n:Int,dd=[di n]/\t=tb true
theorem V0 {f:Addr}{fd:FuncData}{k:Nat}(F:aV K "_law_whole" "_law_whole" qN f fd)(T:Txt mg):aJ P w K mg base ak (k+1) f fd ["_law_found"] (spT K yp):=by
 refine bD F.d VZ (fun dd t h=>by obtain⟨n,rfl,_⟩:=h;rfl) fun dd t h=>?_
 obtain⟨n,rfl,rfl⟩:=h;refine⟨_,.inl rfl,?_⟩;exact aF (bL (Ev.s (Ev.to (yc (p:=true) (q:=true) (lR T.lI T.Qk OS (ae 0 rfl) (by with_unfolding_all rfl)) fun _=>(uF (Dr (p:=false) (lR T.lI T.O6 NF (ae 0 rfl) (by with_unfolding_all rfl))))) rfl)))
abbrev qv:Stmt:=top 66
theorem K0:aZ ["_law_one", "_law_other"] ["_law_one", "_law_other"] (aq qv):=bt
def CF (dd:List Dv)(t:Tr):Prop:=∃ a b:Int,0<=a/\0<=b/\dd=[di a,di b]/\t=ti (gc a b)
theorem Vr {f:Addr}{fd:FuncData}{k:Nat}(F:aV K "_law_divisor" "_law_divisor" qv f fd)(T:Txt mg):aJ P w K mg base ak (k+1) f fd ["_law_one", "_law_other"] (spT K CF):=by
 refine bD F.d K0 (fun dd t h=>by obtain⟨_,_,_,_,rfl,_⟩:=h;rfl) fun dd t h=>?_
 obtain⟨a,b,ha,hb,rfl,rfl⟩:=h;refine⟨_,.inl rfl,?_⟩;refine tU (fun p:Int×Int=>[some (ti p.1),some (ti p.2)]) (fun p=>0<=p.1/\0<=p.2/\gc p.1 p.2=gc a b) (fun p=>decide (0<p.2)) (fun p=>p.2.toNat) (a,b) rfl ⟨ha,hb,rfl⟩ (fun p hp=>Et.s (jX (ae 1 rfl) av)) (fun p hp h=>?_) (fun p hp h=>?_)
 ·obtain⟨x,y⟩:=p;obtain⟨h1,h2,h3⟩:=hp;have hy : 0<y:=by simpa using h
  have l1:=LF x hy;have l2:=Nl x (show y ≠ 0 by omega);refine⟨(y,x % y),⟨h2,l2,?_⟩,?_,aF (aaO 0 1 (Ev.s (ae 1 rfl)) (Ev.s (gZ (ae 0 rfl) (ae 1 rfl) hy)) (fun _=>K0.nd))⟩
  ·show gc y (x % y)=_;rw[NR];exact h3
  ·show(x % y).toNat<y.toNat;omega
 ·obtain⟨x,y⟩:=p;obtain⟨h1,h2,h3⟩:=hp;have GP:y=0:=by
   have q:¬ (0<y):=by simpa using h
   have : 0<=y:=h2;omega
  have jr:gc x y=gc a b:=h3;have pK : 0<=x:=h1;have e:gc a b=x:=by rw[<- jr,GP,NQ];omega
  rw[e];exact aF (bL (Ev.s (ae 0 rfl)))
end
section
variable {P:Program}{w:World}{K:Frag}{mg:Str->Option Value}{base:Heap}
def cE (cell:Int)(left:LI):Nat->Int×LI×LI
 |0=>(cell,left,[])
 |k+1=>((cE cell left k).1 / 6,(cE cell left k).2.1.eraseIdx ((cE cell left k).1 % (cE cell left k).2.1.length).toNat,(cE cell left k).2.2++[(((cE cell left k).2.1)[((cE cell left k).1 % (cE cell left k).2.1.length).toNat]?).getD 0])
theorem wV (cell:Int)(left:LI):∀ k,k<=left.length->((cE cell left k).2.2++(cE cell left k).2.1).Perm left/\(cE cell left k).2.1.length=left.length-k/\(cE cell left k).2.2.length=k
 |0,_=>⟨.refl _,by simp[cE],rfl⟩
 |k+1,hk=>by
  obtain⟨h1,h2,h3⟩:=wV cell left k (by omega);generalize hs:cE cell left k=s at *;obtain⟨c,l,o⟩:=s;have e:cE cell left (k+1)=(c / 6,l.eraseIdx (c % l.length).toNat,o++[(l[(c % l.length).toNat]?).getD 0]):=by
   show((cE cell left k).1 / _,_,_)=_;rw[hs]
  rw[e];have hl : 0<l.length:=by have:l.length=left.length-k:=h2;omega
  have m0:=Nl c (show(l.length:Int) ≠ 0 by omega);have m1:=LF c (show 0<(l.length:Int) by omega);generalize hm:(c % l.length).toNat=m at *;have Hg:m<l.length:=by omega
  refine⟨?_,?_,by rw[qr];have:o.length=k:=h3;simp[this]⟩
  ·show(o++[(l[m]?).getD 0]++l.eraseIdx m).Perm left;rw[ab Hg,ake,ID];exact(ajh o (LJ Hg)).trans h1
  ·show(l.eraseIdx m).length=_;rw[List.length_eraseIdx_of_lt Hg];have:l.length=left.length-k:=h2;omega
def jE (cell:Int)(n:Nat):Nat:=(cell % (n+1)).toNat
theorem size_le (cell:Int)(n:Nat):jE cell n<=n/\((jE cell n:Nat):Int)=cell % ((n:Int)+1):=by
 unfold jE;have:=LF cell (show 0<(n:Int)+1 by omega);have:=Nl cell (show(n:Int)+1 ≠ 0 by omega);omega
def sy (cell:Int)(n:Nat):LI:=(cE (cell / 7) (ah n) (jE cell n)).2.2
theorem Y7 (cell:Int)(n:Nat):(sy cell n).Nodup/\∀ x ∈ sy cell n,0<=x/\x<n:=by
 obtain⟨h,_⟩:=wV (cell / 7) (ah n) (jE cell n) (by rw[bM];exact(size_le cell n).1);refine⟨(r8.mp (h.nodup_iff.mpr (oh n))).1,fun x hx=>aW.mp (h.mem_iff.mp (nv _ hx))⟩
abbrev nOD:List Str:=["_law_cell", "_law_many", "_law_rest", "_law_order_here", "_law_long"]
abbrev qO:Stmt:=top 67
theorem qF:aZ nOD ["_law_cell", "_law_many"] (aq qO):=bt
def PN (dd:List Dv)(t:Tr):Prop:=∃ (cell:Int) (n:Nat),n<=6/\dd=[di cell,di n]/\t=aU (sy cell n)
theorem V1 {f:Addr}{fd:FuncData}{k:Nat}(F:aV K "_law_order" "_law_order" qO f fd)(T:Txt mg):aJ P w K mg base ak (k+1) f fd ["_law_cell", "_law_many"] (spT K PN):=by
 refine bD F.d qF (fun dd t h=>by obtain⟨_,_,_,rfl,_⟩:=h;rfl) fun dd t h=>?_
 obtain⟨cell,n,hn,rfl,rfl⟩:=h;refine⟨_,.inl rfl,?_⟩;have big : 1000<sizeLine:=by decide
 obtain⟨hsz,esz⟩:=size_le cell n;refine ax (i5 2 (QS (dD.to (t':=aU (ah n)) (j7 (own:=["_law_k"]) (fr:=[]) (ah n) di ti (bp.to (iE T.gL (ae 1 rfl) ⟨by omega,by omega⟩) (xR n rfl)) (bJ 0 (fun _=>by show List.Nodup (["_law_k"]:List Str);decide)) (by decide) (by rw[bM];omega) (fun x hx=>⟨_,rfl,by exact ae 0 rfl⟩) (fun dd=>by cases dd<;>rfl)) rfl) (rQ _)) (fun i=>bV) (fun _=>qF.nd)) ?_;refine ax (aP 3 (Ev.s (fD aw (DO _))) (fun _=>qF.nd)) ?_;refine ax (aP 4 (bx.to (t':=ti (jE cell n:Nat)) (Ev.s (gZ (ae 0 rfl) (eI (ae 1 rfl) av) (by omega))) (by rw[esz])) (fun _=>qF.nd)) ?_;refine ax (aP 0 (Ev.s (gh (ae 0 rfl) av ⟨by decide,iT (by decide) (by decide)⟩)) (fun _=>qF.nd)) ?_;have Rh:∀ l:LI,(fX (l.map fun n=>Tr.fz (di n))).length=l.length:=fun l=>by rw[kG,aa,aa]
 refine tU (fun j:Nat=>[some (ti (cE (cell / 7) (ah n) j).1),some (ti n),some (aU (cE (cell / 7) (ah n) j).2.1),some (aU (cE (cell / 7) (ah n) j).2.2),some (ti (jE cell n:Nat))]) (fun j=>j<=jE cell n) (fun j=>decide ((j:Int)<(jE cell n:Nat))) (fun j=>jE cell n-j) 0 rfl (DO _) (fun j hj=>?_) (fun j hj h=>?_) (fun j hj h=>?_)
 ·obtain⟨_,_,p3⟩:=wV (cell / 7) (ah n) j (by rw[bM];omega);refine cK.to (Et.pk (jW (bS T.bQ (ae 3 rfl) (.inl rfl)) (ae 4 rfl))) ?_;rw[Rh,p3]
 ·have lh:j<jE cell n:=by have:=Cn h;omega
  obtain⟨p1,p2,p3⟩:=wV (cell / 7) (ah n) j (by rw[bM];omega);rw[bM]at p2;refine⟨j+1,by omega,by omega,?_⟩;have e:cE (cell / 7) (ah n) (j+1)=((cE (cell / 7) (ah n) j).1 / 6,(cE (cell / 7) (ah n) j).2.1.eraseIdx ((cE (cell / 7) (ah n) j).1 % (cE (cell / 7) (ah n) j).2.1.length).toNat,(cE (cell / 7) (ah n) j).2.2++[(((cE (cell / 7) (ah n) j).2.1)[((cE (cell / 7) (ah n) j).1 % (cE (cell / 7) (ah n) j).2.1.length).toNat]?).getD 0]):=rfl;rw[e];generalize cE (cell / 7) (ah n) j=s at p1 p2 p3;obtain⟨c,l,o⟩:=s;simp only at p1 p2 p3 ⊢;have hl : 0<(l.length:Int):=by omega
  have hl6:(l.length:Int)<=6:=by omega
  have m0:=Nl c (show(l.length:Int) ≠ 0 by omega);have m1:=LF c hl;have el:=Rh l;refine ax (VH 3 2 (d:=di ((l[(c % l.length).toNat]?).getD 0)) (n:=c % l.length) (m:=(c % l.length).toNat) (by decide) rfl rfl (bx.to (t':=ti (c % l.length)) (Ev.pk (gZ (ae 0 rfl) (bS T.bQ (ae 2 rfl) (.inl rfl)) (by rw[el];exact hl)) True.intro) (by rw[el])) ?_ ⟨by omega,by omega⟩ ?_ ?_) ?_
  ·rw[aa];unfold dv;rw[lp m0,lp m1]
  ·rw[ee,ab (show(c % l.length).toNat<l.length by omega)]
   rfl
  ·rw[aa];omega
  ·refine aF (Rn.to (aP 0 (Ev.s (gh (ae 0 rfl) av ⟨by decide,iT (by decide) (by decide)⟩)) (fun _=>qF.nd)) ?_);show[_,_,some (Tr.ow (List.eraseIdx _ _)),some (Tr.ow (_++[_])),_]=[_,_,some (Tr.ow _),some (Tr.ow _),_]
   rw[Cs,L8]
   rfl
 ·have:j=jE cell n:=by have:=ajO h;omega
  subst this;exact aF (oG 3 rfl)
theorem Y8 {α:Type}{l:List α}{x : α}:bu (l++[x]) (-1)=some x:=by
 unfold bu dv;rw[mf (by decide),lp (by rw[qr];simp;omega)];show(l++[x])[_]?=_;have e:(-1+((l++[x]).length:Int)).toNat=l.length:=by rw[qr,EM];omega
 rw[e,LH (br _),Nat.sub_self];rfl
theorem eq_nil {α:Type}(f : α->Dv):∀ L:List α,cJ (.lst (L.map f)) (.lst [])=L.isEmpty
 |[] => rfl
 |_::_=>rfl
def nC (L:LL):LI:=L.getLast?.getD []
theorem X4 {L:LL}(h:L.isEmpty=false):bu (L.map dis) (-1)=some (dis (nC L)):=by
 rcases ajk L with rfl | ⟨l,x,rfl⟩
 ·cases h
 ·unfold nC;rw[List.map_concat,Zl,Y8,Zl,List.getLast?_append];rfl
theorem X5 {L:LL}(h:L.isEmpty=false):nC L ∈ L:=by
 rcases ajk L with rfl | ⟨l,x,rfl⟩
 ·cases h
 ·unfold nC;rw[Zl,List.getLast?_append];simp
def gQ (cell:Nat->Int)(n:Nat):Nat->LL
 |0=>[]
 |k+1=>gQ cell n k++[if decide (cell k % 3=1) && !(gQ cell n k).isEmpty then nC (gQ cell n k)else sy (cell k / 3) n]
theorem C9 (cell:Nat->Int)(n:Nat):∀ k,(gQ cell n k).length=k/\∀ o ∈ gQ cell n k,o.Nodup/\∀ x ∈ o,0<=x/\x<n
 |0=>⟨rfl,fun _ h=>nomatch h⟩
 |k+1=>by
  obtain⟨h1,h2⟩:=C9 cell n k;refine⟨by show(gQ cell n k++[_]).length=_;rw[qr,h1];rfl,fun o ho=>?_⟩;rcases wb.mp (show o ∈ gQ cell n k++[_]from ho)with z | z
  ·exact h2 o z
  ·rw[rf]at z;subst z;split
   ·rename_i q
    rw[BS]at q;exact h2 _ (X5 (by have:=q.2;revert this;cases (gQ cell n k).isEmpty<;>decide))
   ·exact Y7 _ _
def pf (x:Int):Int:=([x / 4 % 4,x / 4 % 4,x / 4 % 2,x / 4 % 10]:LI).getD (x % 4).toNat 0
theorem Ot (x:Int):bu ([x / 4 % 4,x / 4 % 4,x / 4 % 2,x / 4 % 10].map di) (x % 4)=some (di (pf x))/\0<=pf x/\pf x<=9:=by
 have a:=Nl x (show(4:Int) ≠ 0 by decide);have b:=LF x (show(0:Int)<4 by decide);have c:=Nl (x / 4) (show(10:Int) ≠ 0 by decide);have d:=LF (x / 4) (show(0:Int)<10 by decide);have c2:=Nl (x / 4) (show(2:Int) ≠ 0 by decide);have d2:=LF (x / 4) (show(0:Int)<2 by decide);have c4:=Nl (x / 4) (show(4:Int) ≠ 0 by decide);have d4:=LF (x / 4) (show(0:Int)<4 by decide);unfold pf;obtain⟨m,hm⟩:∃ m:Nat,x % 4=(m:Int):=⟨(x % 4).toNat,by omega⟩
 rw[hm,zw];generalize x / 4 % 4=u at c4 d4;generalize x / 4 % 2=v at c2 d2;generalize x / 4 % 10=y at c d;have:m=0\/m=1\/m=2\/m=3:=by omega
 rcases this with rfl | rfl | rfl | rfl
 ·exact⟨rfl,c4,show u<=9 by omega⟩
 ·exact⟨rfl,c4,show u<=9 by omega⟩
 ·exact⟨rfl,c2,show v<=9 by omega⟩
 ·exact⟨rfl,c,show y<=9 by omega⟩
def cT (ns:LI)(st:Int):Nat:=(bP ns st % 7).toNat
def iF (ns:LI)(st:Int):LI:=(List.range (cT ns st)).map fun k=>pf (bP ns (st+1+(0+((k:Nat):Int))))
def nH (ns:LI)(st:Int):Nat:=(1+bP ns st / 7 % 6).toNat
def oH (ns:LI)(st:Int):LL:=gQ (fun k=>bP ns (st+7+(0+((k:Nat):Int)))) (cT ns st) (nH ns st)
theorem Ou (ns:LI)(st:Int):cT ns st<=6/\((cT ns st:Nat):Int)=bP ns st % 7/\(iF ns st).length=cT ns st:=by
 have a:=Nl (bP ns st) (show(7:Int) ≠ 0 by decide);have b:=LF (bP ns st) (show(0:Int)<7 by decide);refine⟨by unfold cT;omega,by unfold cT;omega,by unfold iF;rw[aa,Cf]⟩
theorem Ov (ns:LI)(st:Int) : 1<=nH ns st/\nH ns st<=6/\((nH ns st:Nat):Int)=1+bP ns st / 7 % 6:=by
 have a:=Nl (bP ns st / 7) (show(6:Int) ≠ 0 by decide);have b:=LF (bP ns st / 7) (show(0:Int)<6 by decide);unfold nH;omega
theorem abF (ns:LI)(st:Int):gq (iF ns st) (oH ns st):=by
 obtain⟨m6,_,cl⟩:=Ou ns st;obtain⟨n1,n6,_⟩:=Ov ns st;obtain⟨ol,oo⟩:=C9 (fun k=>bP ns (st+7+(0+((k:Nat):Int)))) (cT ns st) (nH ns st);refine⟨by omega,fun x hx=>?_,by unfold oH;omega,by unfold oH;omega,fun o ho=>(oo o ho).1,fun o ho=>by rw[cl];exact(oo o ho).2⟩;obtain⟨k,_,rfl⟩:=i4.mp hx;exact(Ot _).2
abbrev nTB:List Str:=["_law_script", "_law_start", "_law_first", "_law_many", "_law_counts", "_law_k", "_law_cell", "_law_orders"]
abbrev qP:Stmt:=top 68
theorem lH:aZ nTB ["_law_script", "_law_start"] (aq qP):=bt
def DV (dd:List Dv)(t:Tr):Prop:=∃ (ns:LI) (st:Int),0<=st/\dd=[dis ns,di st]/\t=.fz (.tup [dis (iF ns st),.lst ((oH ns st).map dis)])
theorem V2 {f f1 f2:Addr}{fd aI fd2:FuncData}{k:Nat}(F:aV K "_law_table" "_law_table" qP f fd)(T:Txt mg)(qw:Kn P w K mg base ak (k+1) "_law_cell_at" f1 aI ["_law_script", "_law_k"] (spT K yG))(Wn:Kn P w K mg base ak (k+1) "_law_order" f2 fd2 ["_law_cell", "_law_many"] (spT K PN)):aJ P w K mg base ak (k+2) f fd ["_law_script", "_law_start"] (spT K DV):=by
 refine bD F.d lH (fun dd t h=>by obtain⟨_,_,_,rfl,_⟩:=h;rfl) fun dd t h=>?_
 obtain⟨ns,st,s0,rfl,rfl⟩:=h;refine⟨_,.inl rfl,?_⟩;have big : 1000<sizeLine:=by decide
 obtain⟨m6,em,cl⟩:=Ou ns st;obtain⟨n1,n6,en⟩:=Ov ns st;refine ax (aP 2 (Ev.s (aG qw (br _) (aj (ae 0 rfl) (aj (ae 1 rfl) aw)) ⟨ns,st,s0,rfl,rfl⟩)) (fun _=>lH.nd)) ?_;refine ax (aP 3 (bx.to (t':=ti (cT ns st:Nat)) (Ev.s (gZ (ae 2 rfl) av (by decide))) (by rw[em])) (fun _=>lH.nd)) ?_;refine ax (aP 4 (bx.to (t':=aU ((iF ns st).take 0)) (Ev.s (fD aw (DO _))) rfl) (fun _=>lH.nd)) ?_;have rl:(jj 0 (((cT ns st:Nat):Int)).toNat).length=cT ns st:=by rw[aa,Cf];omega
 refine ax (e7 (bp.s (iE T.gL (ae 3 rfl) ⟨by omega,by omega⟩)) (bJ 5 (fun _=>lH.nd)) (fun j=>[some (.fz (dis ns)),some (ti st),some (ti (bP ns st)),some (ti (cT ns st:Nat)),some (aU ((iF ns st).take j)),none,none,none]) rfl (fun _=>rfl) (fun j d hd=>?_)) ?_
 ·obtain⟨hj,rfl⟩:=xM hd;have lh:j<cT ns st:=by omega
  have gj:(iF ns st)[j]?=some (pf (bP ns (st+1+(0+((j:Nat):Int))))):=by
   unfold iF;rw[ee,CS lh];rfl
  have tl:((iF ns st).take j).length<=6:=by rw[NG];omega
  rw[fA gj];generalize (iF ns st).take j=A at tl;have cg:=(Ot (bP ns (st+1+(0+((j:Nat):Int))))).1;refine⟨_,[some (.fz (dis ns)),some (ti st),some (ti (bP ns st)),some (ti (cT ns st:Nat)),some (aU (A++[pf (bP ns (st+1+(0+((j:Nat):Int))))])),some (ti (0+(j:Int))),some (ti (bP ns (st+1+(0+((j:Nat):Int))))),none],rfl,?_,[5,6],rfl⟩;refine ax (aP 6 (Ev.s (aG qw (br _) (aj (ae 0 rfl) (aj (eI (eI (ae 1 rfl) av) (ae 5 rfl)) aw)) ⟨ns,st+1+(0+(j:Int)),by omega,rfl,rfl⟩)) (fun _=>lH.nd)) ?_;generalize bP ns (st+1+(0+((j:Nat):Int)))=y at cg;refine aF (Rn.to (rm 4 rfl (Ev.s (dU (fD (aj (gZ (gh (ae 6 rfl) av ⟨by decide,iT (by decide) (by decide)⟩) av (by decide)) (aj (gZ (gh (ae 6 rfl) av ⟨by decide,iT (by decide) (by decide)⟩) av (by decide)) (aj (gZ (gh (ae 6 rfl) av ⟨by decide,iT (by decide) (by decide)⟩) av (by decide)) (aj (gZ (gh (ae 6 rfl) av ⟨by decide,iT (by decide) (by decide)⟩) av (by decide)) aw)))) (by show 4<=sizeLine;decide)) (gZ (ae 6 rfl) av (by decide)) rfl cg)) (by rw[aa];omega)) ?_);show[_,_,_,_,some (Tr.ow _),_,_,_]=[_,_,_,_,some (Tr.ow _),_,_,_]
  rw[Cs];rfl
 ·rw[rl,Mc (by omega)];refine tT (d:=dis (iF ns st)) 4 rfl (eZ _) ?_;generalize iF ns st=C;refine ax (aP 7 (bx.to (t':=fO (gQ (fun k=>bP ns (st+7+(0+((k:Nat):Int)))) (cT ns st) 0)) (Ev.s (fD aw (DO _))) rfl) (fun _=>lH.nd)) ?_;have rl2:(jj 0 (1+bP ns st / 7 % 6).toNat).length=nH ns st:=by rw[aa,Cf];omega
  refine ax (e7 (bp.s (iE T.gL (eI av (gZ (gh (ae 2 rfl) av ⟨by decide,iT (by decide) (by decide)⟩) av (by decide))) ⟨by omega,by omega⟩)) (bJ 5 (fun _=>lH.nd)) (fun j=>[some (.fz (dis ns)),some (ti st),some (ti (bP ns st)),some (ti (cT ns st:Nat)),some (.fz (dis C)),none,none,some (fO (gQ (fun k=>bP ns (st+7+(0+((k:Nat):Int)))) (cT ns st) j))]) rfl (fun _=>rfl) (fun j d hd=>?_)) ?_
  ·obtain⟨hj,rfl⟩:=xM hd;have lh:j<nH ns st:=by omega
   obtain⟨l1,l2⟩:=C9 (fun k=>bP ns (st+7+(0+((k:Nat):Int)))) (cT ns st) j;have e:gQ (fun k=>bP ns (st+7+(0+((k:Nat):Int)))) (cT ns st) (j+1)=gQ (fun k=>bP ns (st+7+(0+((k:Nat):Int)))) (cT ns st) j++[if decide (bP ns (st+7+(0+((j:Nat):Int))) % 3=1) && !(gQ (fun k=>bP ns (st+7+(0+((k:Nat):Int)))) (cT ns st) j).isEmpty then nC (gQ (fun k=>bP ns (st+7+(0+((k:Nat):Int)))) (cT ns st) j)else sy (bP ns (st+7+(0+((j:Nat):Int))) / 3) (cT ns st)]:=rfl;rw[e];generalize gQ (fun k=>bP ns (st+7+(0+((k:Nat):Int)))) (cT ns st) j=L at l1 l2;have cr:yG [dis ns,di (st+7+(0+(j:Int)))] (ti (bP ns (st+7+(0+((j:Nat):Int))))):=⟨ns,_,by omega,rfl,rfl⟩
   generalize bP ns (st+7+(0+((j:Nat):Int)))=y at cr;have fin:∀ o:LI,some (fO (L++[o]))=some (.ow (L.map aU++[aU o])):=fun o=>by
    show some (Tr.ow _)=_;rw[Cs];rfl
   have hz:(L.map aU).length<sizeLine:=by rw[aa];omega
   have TV:fj (er (fO L))<=50:=by rw[lM];exact zd (Ys L) (by decide)
   refine⟨_,[some (.fz (dis ns)),some (ti st),some (ti (bP ns st)),some (ti (cT ns st:Nat)),some (.fz (dis C)),some (ti (0+(j:Int))),some (ti y),some (fO (L++[if decide (y % 3=1) && !L.isEmpty then nC L else sy (y / 3) (cT ns st)]))],rfl,?_,[5,6],rfl⟩;rw[fin];refine ax (aP 6 (Ev.s (aG qw (br _) (aj (ae 0 rfl) (aj (eI (eI (ae 1 rfl) av) (ae 5 rfl)) aw)) cr)) (fun _=>lH.nd)) ?_;cases hq:decide (y % 3=1) && !L.isEmpty with
   |true =>
    rw[lp rfl];have hL:L.isEmpty=false:=by
     rw[BS]at hq;have:=hq.2;revert this;cases L.isEmpty<;>decide
    refine aF (oN (Et.pk (Ew.et (si (jD (gZ (ae 6 rfl) av (by decide)) av) fun _=>(rP (lQ (ae 7 rfl) (fD aw (DO _)) ?_ TV))))) ?_ (aF (rm 7 rfl (bx.to (t':=aU (nC L)) (Ev.pk (oE T.jA (dU (ae 7 rfl) (aaJ av) (lM L) (X4 hL)) (.inl rfl)) (by rw[m3];exact rQ _)) (by rw[m3])) hz)))
    ·exact .inl ⟨_,_,rfl,rfl⟩
    ·rw[<- hq,show er (.fz (er (fO L)))=.lst (L.map dis)from lM L];show(_ && !cJ (.lst (L.map dis)) (.lst []))=_;rw[eq_nil]
   |false =>
    rw[mf (by decide)];refine aF (OZ (Et.pk (Ew.et (si (jD (gZ (ae 6 rfl) av (by decide)) av) fun _=>(rP (lQ (ae 7 rfl) (fD aw (DO _)) ?_ TV))))) ?_ (aF (rm 7 rfl (Ev.s (aG Wn (br _) (aj (gh (ae 6 rfl) av ⟨by decide,iT (by decide) (by decide)⟩) (aj (ae 3 rfl) aw)) ⟨y / 3,cT ns st,m6,rfl,rfl⟩)) hz)))
    ·exact .inl ⟨_,_,rfl,rfl⟩
    ·rw[<- hq,show er (.fz (er (fO L)))=.lst (L.map dis)from lM L];show(_ && !cJ (.lst (L.map dis)) (.lst []))=_;rw[eq_nil]
  ·rw[rl2];refine tT (d:=.lst ((oH ns st).map dis)) 7 rfl (lM _) ?_;exact aF (bL (Ev.s (xG (aj (ae 4 rfl) (aj (ae 7 rfl) aw)) rfl (by show 2<=sizeLine;decide))))
end
section
variable {P:Program}{w:World}{K:Frag}{mg:Str->Option Value}{base:Heap}
theorem abG (W:Int)(r:LI):fj (cn W r)<=2:=CL fun d hd=>by
 obtain⟨s,_,rfl⟩:=i4.mp hd;exact DH _
theorem abH (W:Int)(rows:LL):fj (bI W rows)<=3:=CL fun d hd=>by
 obtain⟨s,_,rfl⟩:=i4.mp hd;exact abG W s
theorem abI (W:Int)(r:LI):kq (cn W r)=true:=NT (fun s=>abl (fW W s)) r
theorem abJ (W:Int)(rows:LL):kq (bI W rows)=true:=NT (abI W) rows
abbrev qh:Stmt:=top 70
theorem Vd:aZ ["_law_one"] ["_law_one"] (aq qh):=bt
def Ri (dd:List Dv)(r:Tr):Prop:=∃ (D w:Int),0<D/\0<w/\dd=[dF (fW D w)]/\r=tb true
theorem QB {D w:Int}(D0 : 0<D)(w0 : 0<w) : 0<(fW D w).1:=by
 have cr:=gg (s:=w) D0;have q0:=dI (s:=w) D0;have h1:=NJ w0 q0;rcases aji 0 (fW D w).1 with z | z
 ·exact z
 ·have:=AL z (show 0<=D by omega);omega
theorem Ve {f f1 f2:Addr}{fd aI fd2:FuncData}{k:Nat}(F:aV K "_law_is_weight" "_law_is_weight" qh f fd)(T:Txt mg)(qQ:Kn P w K mg base ak (k+1) "_law_whole" f1 aI ["_law_found"] (spT K yp))(Bc:Kn P w K mg base ak (k+1) "_law_divisor" f2 fd2 ["_law_one", "_law_other"] (spT K CF)):aJ P w K mg base ak (k+2) f fd ["_law_one"] (spT K Ri):=by
 refine bD F.d Vd (fun dd t h=>by obtain⟨_,_,_,_,rfl,_⟩:=h;rfl) fun dd r h=>?_
 obtain⟨D,wt,D0,w0,rfl,rfl⟩:=h;refine⟨_,.inl rfl,?_⟩;have co:=Dy (s:=wt) D0;have q0:=dI (s:=wt) D0;have p0:=QB D0 w0;generalize fW D wt=p at co q0 p0;have g1:gc p.1 p.2=1:=by unfold gc;rw[co];rfl
 have fH:bu [di p.1,di p.2] 0=some (di p.1):=rfl;have eC:bu [di p.1,di p.2] 1=some (di p.2):=rfl;refine ax (cH (cK.to (q:=false) (Et.s (Ew.et (gk (gM (eJ (lR T.lI T.CT B8 (ae 0 rfl) (by with_unfolding_all rfl)))) fun _=>(gk (kM (bS T.bQ (ae 0 rfl) (.inr rfl)) av) fun _=>(gk (gM (eJ (aG (t:=tb true) qQ (br _) (aj (aY (ae 0 rfl) av rfl fH) aw) ⟨p.1,rfl,rfl⟩))) fun _=>(jV (gM (eJ (aG (t:=tb true) qQ (br _) (aj (aY (ae 0 rfl) av rfl eC) aw) ⟨p.2,rfl,rfl⟩))))))))) rfl) rfl) ?_;refine aF (bL (bx.to (Ev.s (yc (Eb (aY (ae 0 rfl) av rfl fH) av) fun _=>(yc (Eb (aY (ae 0 rfl) av rfl eC) av) fun _=>(uF (abZ (aG (t:=ti (gc p.1 p.2)) Bc (br _) (aj (aY (ae 0 rfl) av rfl fH) (aj (aY (ae 0 rfl) av rfl eC) aw)) ⟨p.1,p.2,by omega,by omega,rfl,rfl⟩) av))))) ?_));rw[u4 p0,u4 q0,g1];rfl
abbrev nIM:List Str:=["_law_mix", "_law_counts", "_law_shares", "_law_known", "_law_part", "_law_deal", "_law_most", "_law_row"]
abbrev qG:Stmt:=top 71
theorem oa:aZ nIM ["_law_mix", "_law_counts", "_law_shares"] (aq qG):=bt
abbrev eV (D:Int)(M:List (Int×LI)):Dv:=.lst (M.map (nX D))
structure Ad (W:Int) (c:LI) (rows:LL) (D:Int) (M:List (Int×LI)):Prop where
 mx:Ft W c rows D M
 c6:c.length<=6
 r6:rows.length<=6
 r7:∀ r ∈ rows,r.length=c.length+1
 w0 : 0<W
 w1:W<2 ^ 70
 sb:∀ r ∈ rows,∀ s ∈ r,0<=s/\s<=W
def yq (dd:List Dv)(t:Tr):Prop:=∃ W c rows D M,Ad W c rows D M/\dd=[eV D M,dis c,bI W rows]/\t=tb true
def ph (W:Int)(rows:LL):Nat:=(rows.map fun r=>r.countP fun s=>decide (0<(fW W s).1)).sum
theorem VB {f f1 f2:Addr}{fd aI fd2:FuncData}{k:Nat}(F:aV K "_law_is_mix" "_law_is_mix" qG f fd)(T:Txt mg)(Vi:Kn P w K mg base ak (k+2) "_law_is_weight" f1 aI ["_law_one"] (spT K Ri))(qQ:Kn P w K mg base ak (k+1) "_law_whole" f2 fd2 ["_law_found"] (spT K yp)):aJ P w K mg base ak (k+3) f fd ["_law_mix", "_law_counts", "_law_shares"] (spT K yq):=by
 refine bD F.d oa (fun dd t h=>by obtain⟨_,_,_,_,_,_,rfl,_⟩:=h;rfl) fun dd r h=>?_
 obtain⟨W,c,rows,D,M,im,rfl,rfl⟩:=h;refine⟨_,.inl rfl,?_⟩;have big : 1000<sizeLine:=by decide
 have mx:=im.mx;have c6:=im.c6;have r6:=im.r6;have tQ:=mx.tQ;have o9:(((c.map di).length:Nat):Int)=c.length:=by rw[aa]
 refine ax (cH (cK.to (q:=false) (Et.s (gM (eJ (lR T.lI T.jA rO (ae 0 rfl) (by with_unfolding_all rfl))))) rfl) rfl) ?_;refine ax (aP 3 (bx.to (t':=fO ((M.take 0).map (·.2))) (Ev.s (fD aw (DO _))) rfl) (fun _=>oa.nd)) ?_;refine ax (e7 (bp.s (bR (ae 0 rfl) rfl)) (bJ 4 (fun _=>oa.nd)) (fun j=>[some (.fz (eV D M)),some (.fz (dis c)),some (.fz (bI W rows)),some (fO ((M.take j).map (·.2))),none,none,none,none]) rfl (fun _=>rfl) (fun j d hd=>?_)) ?_
 ·obtain⟨m,hm,rfl⟩:=dH hd;have mm:=mT hm;have jl:=(ir.mp hm).1;have new:((M.take j).map (·.2)).contains m.2=false:=by
   rw[akP];intro h;have h:m.2 ∈ (M.take j).map (·.2):=by simpa using h
   have nd:=mx.nd;have e:M.map (·.2)=(M.take j).map (·.2)++m.2::(M.drop (j+1)).map (·.2):=by
    conv=>lhs;rw[<- aj9 j M,HT jl]
    rw[Cs,i8];have:=(ir.mp hm).2;rw[this]
   rw[e]at nd;exact(r8.mp nd).2.2 _ h _ (.head _) rfl
  have ml:((M.take j).map (·.2)).length<=48:=by rw[aa,NG];omega
  have dl:=mx.len m mm;rw[fA hm,Cs];show ∃ _ _,_/\bw _ _ _ _/\Fg _ [_,_,_,some (fO ((M.take j).map (·.2)++[m.2])),_,_,_,_];generalize (M.take j).map (·.2)=Hh at new ml;have cF:=mx.cF m mm;have cnt:=mx.cnt m mm;have w0:=mx.pos m mm;have D0:=mx.D0;obtain⟨w1,mU⟩:=m;dsimp only at new dl cF cnt w0 ⊢;have a0:bu [dF (fW D w1),dis mU] 0=some (dF (fW D w1)):=rfl;have a1:bu [dF (fW D w1),dis mU] 1=some (dis mU):=rfl;refine⟨_,[some (.fz (eV D M)),some (.fz (dis c)),some (.fz (bI W rows)),some (fO (Hh++[mU])),some (.fz (nX D (w1,mU))),some (.fz (dis mU)),none,none],rfl,?_,[4,5],rfl⟩;refine ax (cH (cK.to (q:=false) (Et.s (Ew.et (gk (gM (eJ (lR T.lI T.CT B8 (ae 4 rfl) (by with_unfolding_all rfl)))) fun _=>(gk (kM (bS T.bQ (ae 4 rfl) (.inr rfl)) av) fun _=>(jV (gM (eJ (aG (t:=tb true) Vi (br _) (aj (aY (ae 4 rfl) av rfl a0) aw) ⟨D,w1,D0,w0,rfl,rfl⟩)))))))) rfl) rfl) ?_;refine ax (aP 5 (Ev.s (aY (ae 4 rfl) av rfl a1)) (fun _=>oa.nd)) ?_;refine ax (cH (cK.to (q:=false) (Et.pk (Ew.et (gk (gM (eJ (lR T.lI T.jA rO (ae 5 rfl) (by with_unfolding_all rfl)))) fun _=>(gk (kM (bS T.bQ (ae 5 rfl) (.inl rfl)) (bS T.bQ (ae 2 rfl) (.inl rfl))) fun _=>(jV (aa8 (ae 5 rfl) (ae 3 rfl) rfl (lM Hh) (by with_unfolding_all rfl))))))) (by
   rw[new,aa,aa,dl,u4 rfl];rfl)) rfl) ?_
  refine ax (cH (cK.to (q:=false) (Et.s (lQ (Ev.as (d:=.lst []) (kJ (own:=["_law_one"]) (fr:=[1]) mU di (fun x=>false) ti (fun i=>bV) (bR (ae 5 rfl) rfl) (bJ 0 (fun _=>by show List.Nodup (["_law_one", "_law_counts"]:List Str);decide)) (by decide) (by omega) (fun x hx=>⟨_,rfl,by
    have:=cF x hx;exact g9 (Et.to (q:=false) (Ew.et (gk (gM (eJ (aG (t:=tb true) qQ (by show k+1<=k+2;omega) (aj (ae 0 rfl) aw) ⟨x,rfl,rfl⟩))) fun _=>(gk (jW (ae 0 rfl) av) fun _=>(jV (jX (ae 0 rfl) (bS T.bQ (ae 1 rfl) (.inl rfl))))))) (by
     rw[tw (show ¬ x<0 by omega),tw (show ¬ (((c.map di).length:Nat):Int)<x by rw[o9];omega)];rfl)),fun h=>nomatch h⟩) (fun dd=>by cases dd<;>rfl)) (by rw[ajW.mpr fun o _ h=>by cases h];rfl)) (fD aw (DO _)) (.inl ⟨_,_,rfl,rfl⟩) (by decide))) rfl) rfl) ?_
  refine ax (cH (cK.to (q:=false) (Et.s (lQ (Ev.as (d:=.lst []) (kJ (own:=["_law_k"]) (fr:=[1,5]) (ah c.length) di (fun x=>false) ti (fun i=>bV) (bp.to (iE T.gL (bS T.bQ (ae 1 rfl) (.inl rfl)) (by rw[o9];omega)) (xR c.length o9)) (bJ 0 (fun _=>by show List.Nodup (["_law_k", "_law_counts", "_law_deal"]:List Str);decide)) (by decide) (by rw[bM];omega) (fun x hx=>⟨_,rfl,by
    obtain⟨x0,x1⟩:=aW.mp hx;have:=cnt x x0 x1;exact g9 (Et.to (q:=false) (jX (wZ (ae 2 rfl) rfl (ae 0 rfl)) (dU (ae 1 rfl) (ae 0 rfl) rfl (jB di x0 x1))) (tw (by omega))),fun h=>nomatch h⟩) (fun dd=>by cases dd<;>rfl)) (by rw[ajW.mpr fun o _ h=>by cases h];rfl)) (fD aw (DO _)) (.inl ⟨_,_,rfl,rfl⟩) (by decide))) rfl) rfl) ?_
  refine aF (Rn.to (rm 3 rfl (bx.to (t':=aU mU) (Ev.s (oE T.jA (ae 5 rfl) (.inl rfl))) (by rw[m3])) (by rw[aa];omega)) ?_);show[_,_,_,some (Tr.ow (Hh.map aU++[aU mU])),_,_,_,_]=[_,_,_,some (Tr.ow _),_,_,_,_]
  rw[Cs];rfl
 ·refine ZC 3 rfl ?_;refine ax (aP 6 (bx.to (t':=ti ((c.length+ph W (rows.take 0):Nat):Int)) (Ev.s (bS T.bQ (ae 1 rfl) (.inl rfl))) (by rw[o9,akJ];rfl)) (fun _=>oa.nd)) ?_;generalize er (fO ((M.take (M.map (nX D)).length).map (·.2)))=X;refine ax (e7 (bp.s (bR (ae 2 rfl) rfl)) (bJ 7 (fun _=>oa.nd)) (fun j=>[some (.fz (eV D M)),some (.fz (dis c)),some (.fz (bI W rows)),some (.fz X),none,none,some (ti ((c.length+ph W (rows.take j):Nat):Int)),none]) rfl (fun _=>rfl) (fun j d hd=>?_)) ?_
  ·obtain⟨r,hr,rfl⟩:=dH hd;have r7:=im.r7 r (mT hr);have e:ph W (rows.take (j+1))=ph W (rows.take j)+r.countP fun s=>decide (0<(fW W s).1):=by
    unfold ph;rw[fA hr,Cs,ai4];simp
   rw[e];generalize ph W (rows.take j)=u;refine⟨_,[some (.fz (eV D M)),some (.fz (dis c)),some (.fz (bI W rows)),some (.fz X),none,none,some (ti ((c.length+(u+r.countP fun s=>decide (0<(fW W s).1)):Nat):Int)),some (.fz (cn W r))],rfl,?_,[7],rfl⟩;refine aF (aP 6 (bx.to (Ev.s (eI (ae 6 rfl) (bS T.bQ (kJ (own:=["_law_share"]) (fr:=[]) r (fun s=>dF (fW W s)) (fun s=>decide (0<(fW W s).1)) (fun s=>tF (fW W s)) (fun i=>bV) (bR (ae 7 rfl) rfl) (bJ 0 (fun _=>by show List.Nodup (["_law_share"]:List Str);decide)) (by decide) (by omega) (fun s hs=>⟨_,rfl,by
     have a0:bu [di (fW W s).1,di (fW W s).2] 0=some (di (fW W s).1):=rfl;exact g9 (jX (aY (ae 0 rfl) av rfl a0) av),fun _=>by exact ae 0 rfl⟩) (fun dd=>by cases dd<;>rfl)) (.inl (dk _ _))))) ?_) (fun _=>oa.nd))
   rw[aa,aje];congr 3;omega
  ·rw[aa,Mn];have ml:=mx.ml;refine aF (bL (bx.to (Ev.s (abX (bS T.bQ (ae 0 rfl) (.inl rfl)) (ae 6 rfl))) ?_));rw[aa,u4];unfold ph;omega
end
section
variable {P:Program}{w:World}{K:Frag}{mg:Str->Option Value}{base:Heap}
theorem abK {W L s:Int}(h : 0<W)(hd:(fW W s).2 ∣ L):(fW W s).1*(L / (fW W s).2)*W=s*L:=by
 have p:=dI (s:=s) h;have c:=gg (s:=s) h;generalize (fW W s).1=a at *;generalize (fW W s).2=b at *;obtain⟨q,rfl⟩:=hd;rw[LB _ (by omega),BN,c,ES]
theorem rY {n i:Nat}(h:i<n):(ah n)[i]?=some ((i:Nat):Int):=by
 unfold ah;rw[ee,CS h];show some (0+((i:Nat):Int))=_;rw[Zp]
def nI (L D w:Int):Int:=(fW D w).1*(L / (fW D w).2)
def cZ (D:Int)(M:List (Int×LI)):List ((Int×Int)×LI):=M.map fun m=>(fW D m.1,m.2)
def dR (L D:Int)(M:List (Int×LI)):List (Int×LI):=M.map fun m=>(nI L D m.1,m.2)
theorem Ox (D:Int)(M:List (Int×LI)):eV D M=.lst ((cZ D M).map Ac):=by
 unfold cZ;show Dv.lst _=Dv.lst _;rw[gz];rfl
theorem DW:∀ {l:LI},(∀ x ∈ l,0<x)->0<=l.sum/\∀ x ∈ l,x<=l.sum
 |[],_=>⟨YE _,fun x h=>nomatch h⟩
 |a::l,h=>by
  obtain⟨h1,h2⟩:=DW (l:=l) fun x hx=>h x (.tail _ hx)
  have h0:=h a (.head _);rw[ue];refine⟨by omega,fun x hx=>?_⟩;rcases gr.mp hx with rfl | hx
  ·omega
  ·have:=h2 x hx;omega
theorem Ad.tk {W:Int}{c:LI}{rows:LL}{D:Int}{M:List (Int×LI)}(im:Ad W c rows D M):nB (cZ D M):=by
 have mx:=im.mx;have D0:=mx.D0;have D1:D<2 ^ 230:=mx.D1;have D2:D<2 ^ 3000:=akF D1 (by decide +kernel);refine⟨⟨D,D0,akF D1 (by decide +kernel),fun b hb=>?_⟩,by unfold cZ;rw[aa];have:=mx.tQ;omega,fun m hm=>?_⟩
 ·obtain⟨m,hm,rfl⟩:=i4.mp hb;obtain⟨m,_,rfl⟩:=i4.mp hm;exact⟨dI D0,DU D0⟩
 ·obtain⟨m,pV,rfl⟩:=i4.mp hm;clear hm;have hm:=pV;have p0:=QB D0 (mx.pos m hm);have ft:=uH (s:=m.1) D0;have le:=(DW (l:=M.map (·.1)) fun x hx=>by
   obtain⟨m,hm,rfl⟩:=i4.mp hx;exact mx.pos m hm).2 m.1 (akq (f:=(·.1)) hm)
  rw[mx.lE]at le;have:=mx.pos m hm;refine⟨p0,EU (show(fW D m.1).1.natAbs<=2 ^ 230 by omega) (by decide +kernel)⟩
theorem Y9 (N:List (Int×LI))(m:Int×LI)(a x:Int):bF (N++[m]) a x=bF N a x+if af m.2 a=x then m.1 else 0:=by
 unfold bF;rw[akz,Cs,ai4,Lm];by_cases h:af m.2 a=x
 ·rw[lp (u4 h),lp h];simp
 ·rw[mf (by rw[Na];exact h),mf h];simp
theorem abL {L D:Int}(D0 : 0<D){M:List (Int×LI)}(hd:∀ m ∈ M,(fW D m.1).2 ∣ L)(a x:Int):bF (dR L D M) a x*D=bF M a x*L/\((dR L D M).map (·.1)).sum*D=(M.map (·.1)).sum*L:=by
 induction M with
 |nil=>exact⟨by show(0:Int)*D=0*L;rw[LG,LG],by show(0:Int)*D=0*L;rw[LG,LG]⟩
 |cons m M ih =>
  obtain⟨i1,i2⟩:=ih fun m hm=>hd m (.tail _ hm)
  have e:=abK D0 (hd m (.head _));have e:nI L D m.1*D=m.1*L:=e;have e1:dR L D (m::M)=(nI L D m.1,m.2)::dR L D M:=rfl;rw[e1,oz,oz,i8,ue,i8,ue,SI,SI,SI,SI,i1,i2,e];refine⟨?_,rfl⟩;congr 1;split
  ·exact e
  ·rw[LG,LG]
def gR (A n:Nat)(N:List (Int×LI)):List (List Dv):=(ah A).map fun a=>(ah (n+1)).map fun x=>di (bF N a x)
theorem rL (A n:Nat)(N:List (Int×LI)):(gR A n N).length=A:=by unfold gR;rw[aa,bM]
theorem x4 {A n:Nat}{N:List (Int×LI)}{k:Nat}(h:k<A):(gR A n N)[k]?=some ((ah (n+1)).map fun x=>di (bF N (k:Int) x)):=by
 unfold gR;rw[ee,rY h];rfl
theorem CG:∀ {xs ys:List Dv} {j:Nat} {d:Dv},(yU xs ys)[j]?=some d->∃ x y,xs[j]?=some x/\ys[j]?=some y/\d=.tup [x,y]
 |[],_,j,d,h=>by cases j<;>cases h
 |_::_,[],j,d,h=>by cases j<;>cases h
 |x::xs,y::ys,0,d,h=>⟨x,y,rfl,rfl,(xw h).symm⟩
 |x::xs,y::ys,j+1,d,h=>CG (xs:=xs) (ys:=ys) (j:=j) h
abbrev nTD:List Str:=["_law_mix", "_law_counts", "_law_shares", "_law_many", "_law_weight", "_law_deal", "_law_found", "_law_often", "_law_start", "_law_own", "_law_number", "_law_told", "_law_row", "_law_thing", "_law_tops", "_law_share", "_law_top"]
abbrev qf:Stmt:=top 72
theorem gY:aZ nTD ["_law_mix", "_law_counts", "_law_shares"] (aq qf):=bt
theorem Vb {f f1 f2 f3 f4:Addr}{fd aI fd2 eE mN:FuncData}{k:Nat}(F:aV K "_law_tickets_told" "_law_tickets_told" qf f fd)(T:Txt mg)(Bc:Kn P w K mg base ak (k+1) "_law_divisor" f1 aI ["_law_one", "_law_other"] (spT K CF))(B4:Kn P w K mg base ak (k+3) "tickets" f2 fd2 ["mix"] (spT K CD))(qQ:Kn P w K mg base ak (k+1) "_law_whole" f3 eE ["_law_found"] (spT K yp))(X6:Kn P w K mg base ak (k+4) "deal_at" f4 mN ["mix", "number"] (spT K C8)):aJ P w K mg base ak (k+5) f fd ["_law_mix", "_law_counts", "_law_shares"] (spT K yq):=by
 refine bD F.d gY (fun dd t h=>by obtain⟨_,_,_,_,_,_,rfl,_⟩:=h;rfl) fun dd r h=>?_
 obtain⟨W,c,rows,D,M,im,rfl,rfl⟩:=h;refine⟨_,.inl rfl,?_⟩;have big : 1000<sizeLine:=by decide
 have mx:=im.mx;have D0:=mx.D0;have tQ:=mx.tQ;have c6:=im.c6;have r6:=im.r6;have fI:=im.tk;obtain⟨l1,l2,l3⟩:=fI.L;have one:=fun m hm=>fI.one (m:=m) hm
 have eb:(cZ D M).map (·.1.2)=M.map fun m=>(fW D m.1).2:=by unfold cZ;rw[gz];rfl
 obtain⟨L,hL⟩:∃ L,L=cG 1 ((cZ D M).map (·.1.2)):=⟨_,rfl⟩
 rw[<- hL]at l1 l2 l3 one;have hd:∀ m ∈ M,(fW D m.1).2 ∣ L:=fun m hm=>l3 _ (by rw[eb];exact akq (f:=fun m:Int×LI=>(fW D m.1).2) hm)
 have tl:(cZ D M).length=M.length:=by unfold cZ;rw[aa]
 have tg:∀ {j:Nat} {m:Int×LI},M[j]?=some m->(cZ D M)[j]?=some (fW D m.1,m.2):=fun {j m} h=>by unfold cZ;rw[ee,h];rfl
 have og:∀ {j:Nat} {m:Int×LI},M[j]?=some m->(dR L D M)[j]?=some (nI L D m.1,m.2):=fun {j m} h=>by unfold dR;rw[ee,h];rfl
 refine ax (aP 3 (bx.to (t':=ti (cG 1 (((cZ D M).map (·.1.2)).take 0))) (Ev.s av) rfl) (fun _=>gY.nd)) ?_;refine ax (e7 (bp.s (bR (ae 0 rfl) rfl)) (eK 4 5 (fun _=>gY.nd)) (fun j=>[some (.fz (eV D M)),some (.fz (dis c)),some (.fz (bI W rows)),some (ti (cG 1 (((cZ D M).map (·.1.2)).take j))),none,none,none,none,none,none,none,none,none,none,none,none,none]) rfl (fun _=>rfl) (fun j d hd=>?_)) ?_
 ·obtain⟨m,hm,rfl⟩:=dH hd;have bj:((cZ D M).map (·.1.2))[j]?=some (fW D m.1).2:=by rw[ee,tg hm];rfl
  obtain⟨a1,a2⟩:=fI.vv.lc j;obtain⟨b1,b2,_,_⟩:=one _ (mT (tg hm));have ky:bu [di (fW D m.1).1,di (fW D m.1).2] 1=some (di (fW D m.1).2):=rfl;rw[fA bj,LD];show ∃ _ _,_/\bw _ _ _ _/\Fg _ [_,_,_,some (ti (lc (cG 1 (((cZ D M).map (·.1.2)).take j)) (fW D m.1).2)),_,_,_,_,_,_,_,_,_,_,_,_,_];generalize cG 1 (((cZ D M).map (·.1.2)).take j)=y at a1 a2;dsimp only at b1 b2;have g0:=oO (a:=y) (b:=(fW D m.1).2) (by omega);have gd:=Ca y (fW D m.1).2;have gb:=CJ (a:=y) b1;have e:y / gc y (fW D m.1).2*(fW D m.1).2=lc y (fW D m.1).2:=by
   unfold lc;generalize gc y (fW D m.1).2=g at g0 gd;obtain⟨q,rfl⟩:=gd;rw[LB _ (by omega),ES,LB _ (by omega)]
  have y0 : 0<=y / gc y (fW D m.1).2:=ajf (by omega) (by omega);have y1:y / gc y (fW D m.1).2<=y:=aja _ (by omega);refine⟨_,[some (.fz (eV D M)),some (.fz (dis c)),some (.fz (bI W rows)),some (ti (lc y (fW D m.1).2)),some (tF (fW D m.1)),some (.fz (dis m.2)),none,none,none,none,none,none,none,none,none,none,none],rfl,?_,[4,5],rfl⟩;exact aF (aP 3 (bx.to (Ev.s (d9 (gh (ae 3 rfl) (aG Bc (by show k+1<=k+4;omega) (aj (ae 3 rfl) (aj (aY (ae 4 rfl) av rfl ky) aw)) ⟨y,(fW D m.1).2,by omega,by omega,rfl,rfl⟩) ⟨g0,i6 (by omega)⟩) (aY (ae 4 rfl) av rfl ky) ⟨i6 (by omega),i6 b2⟩)) (by rw[e])) (fun _=>gY.nd))
 ·rw[aa,<- tl,<- aa (f:=fun m:(Int×Int)×LI=>m.1.2),Mn,<- hL];refine ax (aP 6 (bx.to (t':=ti L) (Ev.s (aG B4 (by show k+3<=k+4;omega) (aj (ae 0 rfl) aw) ⟨cZ D M,fI.vv,fI.len,by show[eV D M]=_;rw[Ox],rfl⟩)) (by rw[hL])) (fun _=>gY.nd)) ?_;refine ax (cH (cK.to (q:=false) (Et.s (Ew.et (gk (gM (eJ (aG (t:=tb true) qQ (by show k+1<=k+4;omega) (aj (ae 6 rfl) aw) ⟨L,rfl,rfl⟩))) fun _=>(jV (kM (ae 6 rfl) (ae 3 rfl)))))) (by rw[u4 rfl];rfl)) rfl) ?_;have e0:Tr.ow (rows.map fun r=>Tr.ow (List.replicate ((((r.map fun s=>dF (fW W s)).length:Nat):Int)).toNat (ti 0)))=.ow ((gR rows.length c.length ((dR L D M).take 0)).map eW):=by
   congr 1
   refine akj (by rw[aa,aa,rL]) fun i h1 h2=>?_
   rw[TM,TM];rw[aa]at h1;have:=x4 (n:=c.length) (N:=(dR L D M).take 0) h1;rw[ab (by rw[rL];exact h1)]at this;rw[xw this,aa,im.r7 _ (MW _),zw];show _=Tr.ow (List.map _ (List.map _ _));rw[gz];congr 1;refine(List.eq_replicate_iff.mpr ⟨by rw[aa,bM],fun b hb=>?_⟩).symm;obtain⟨x,_,rfl⟩:=i4.mp hb
   rfl
  refine ax (i5 7 (j6 (dD.to (j7 (own:=["_law_row"]) (fr:=[]) rows (cn W) (fun r=>Tr.ow (List.replicate ((((r.map fun s=>dF (fW W s)).length:Nat):Int)).toNat (ti 0))) (bR (ae 2 rfl) rfl) (bJ 0 (fun _=>by show List.Nodup (["_law_row"]:List Str);decide)) (by decide) (by omega) (fun r hr=>⟨_,rfl,by
   have:=im.r7 r hr;exact aa9 (d:=di 0) (fD (aj av aw) (by show 1<=sizeLine;decide)) (bS T.bQ (ae 0 rfl) (.inl rfl)) (by omega) (by rw[aa];omega)⟩) (fun dd=>by cases dd<;>rfl)) e0)) (fun i=>bV) (fun _=>gY.nd)) ?_
  refine ax (aP 8 (bx.to (t':=ti (dY L ((cZ D M).take 0))) (Ev.s av) rfl) (fun _=>gY.nd)) ?_;refine ax (e7 (bp.s (bR (ae 0 rfl) rfl)) (eK 4 5 (fun _=>gY.nd)) (fun j=>[some (.fz (eV D M)),some (.fz (dis c)),some (.fz (bI W rows)),some (ti L),none,none,some (ti L),some (.ow ((gR rows.length c.length ((dR L D M).take j)).map eW)),some (ti (dY L ((cZ D M).take j))),none,none,none,none,none,none,none,none]) rfl (fun _=>rfl) (fun j d nK=>?_)) ?_
  ·obtain⟨m,hm,rfl⟩:=dH nK;have mm:=mT hm;have bd:=hd m mm;obtain⟨b1,b2,b3,b4⟩:=one _ (mT (tg hm));obtain⟨p1,p2⟩:=fI.Fu _ (mT (tg hm));dsimp only at b1 b2 b3 b4 p1 p2;have e8:dY L ((cZ D M).take (j+1))=dY L ((cZ D M).take j)+nI L D m.1:=by rw[fA (tg hm),B2];rfl
   have ra:∀ n,dY L ((cZ D M).take j)<=n->n<dY L ((cZ D M).take (j+1))->C8 [eV D M,di n] (.ow ((m.2.map di).map .fz)):=fun n h1 h2=>⟨cZ D M,n,j,(fW D m.1,m.2),fI,tg hm,by rw[<- hL];exact h1,by rw[<- hL];exact h2,by rw[Ox],rfl⟩
   have o1 : 1<=nI L D m.1:=by
    have : 1*1<=(fW D m.1).1*(L / (fW D m.1).2):=Int.mul_le_mul p1 b3 (by decide) (by omega);exact this
   have eo:(fW D m.1).1*L / (fW D m.1).2=nI L D m.1:=Int.mul_ediv_assoc _ bd;rw[e8]at ra ⊢;rw[fA (og hm)];have dl:=mx.len m mm;have cF:=mx.cF m mm;generalize dY L ((cZ D M).take j)=S at ra;generalize (dR L D M).take j=N;generalize nI L D m.1=o at o1 eo ra;have a0:bu [di (fW D m.1).1,di (fW D m.1).2] 0=some (di (fW D m.1).1):=rfl;have a1:bu [di (fW D m.1).1,di (fW D m.1).2] 1=some (di (fW D m.1).2):=rfl;refine⟨_,[some (.fz (eV D M)),some (.fz (dis c)),some (.fz (bI W rows)),some (ti L),some (tF (fW D m.1)),some (.fz (dis m.2)),some (ti L),some (.ow ((gR rows.length c.length (N++[(o,m.2)])).map eW)),some (ti (S+o)),some (ti o),none,none,none,none,none,none,none],rfl,?_,[4,5,9],rfl⟩;refine ax (aP 9 (bx.to (t':=ti o) (Ev.s (gh (d9 (aY (ae 4 rfl) av rfl a0) (ae 3 rfl) ⟨i6 p2,i6 l2⟩) (aY (ae 4 rfl) av rfl a1) ⟨b1,i6 b2⟩)) (by rw[eo])) (fun _=>gY.nd)) ?_;refine ax (e7 (its:=[di S,di (S+o-1)]) (bp.s (bR (fD (aj (ae 8 rfl) (aj (se (eI (ae 8 rfl) (ae 9 rfl)) av) aw)) (by show 2<=sizeLine;decide)) rfl)) (bJ 10 (fun _=>gY.nd)) (fun _=>[some (.fz (eV D M)),some (.fz (dis c)),some (.fz (bI W rows)),some (ti L),some (tF (fW D m.1)),some (.fz (dis m.2)),some (ti L),some (.ow ((gR rows.length c.length N).map eW)),some (ti S),some (ti o),none,none,none,none,none,none,none]) rfl (fun _=>rfl) (fun i d hi=>?_)) ?_
   ·obtain⟨n,rfl,n1,n2⟩:∃ n,d=di n/\S<=n/\n<S+o:=by
     match i,hi with
     |0,hi=>exact⟨S,(xw hi).symm,YE _,by omega⟩
     |1,hi=>exact⟨S+o-1,(xw hi).symm,by omega,by omega⟩
     |i+2,hi=>cases hi
    refine⟨_,[some (.fz (eV D M)),some (.fz (dis c)),some (.fz (bI W rows)),some (ti L),some (tF (fW D m.1)),some (.fz (dis m.2)),some (ti L),some (.ow ((gR rows.length c.length N).map eW)),some (ti S),some (ti o),some (ti n),some (.fz (dis m.2)),none,none,none,none,none],rfl,?_,[10,11],rfl⟩;refine ax (aP 11 (Ev.s (Ev.as (d:=dis m.2) (aG X6 (br _) (aj (ae 0 rfl) (aj (ae 10 rfl) aw)) (ra n n1 n2)) (oM _))) (fun _=>gY.nd)) ?_;exact aF (cH (cK.to (q:=false) (Et.s (Ew.et (gk (gM (eJ (lR T.lI T.jA rO (ae 11 rfl) (by with_unfolding_all rfl)))) fun _=>(jV (lQ (ae 11 rfl) (ae 5 rfl) (.inl ⟨_,_,rfl,rfl⟩) (zd (xO m.2) (by decide))))))) (by
     show(!true || !cJ (dis m.2) (dis m.2))=false;rw[w8 (NS _)];rfl)) rfl)
   ·refine ax (VI 7 12 13 (rows:=gR rows.length c.length N) (rows':=gR rows.length c.length (N++[(o,m.2)])) (ns:=m.2) rfl rfl rfl (by decide) (by decide) (by decide) (ae 5 rfl) rfl (by rw[rL,dl]) (by rw[rL,rL]) (fun q row n hq hn=>?_) T.Ej (fun _=>gY.nd) (hps:=fun i=>rZ (pv 12) (pv 13) set_list)) ?_
    ·have TX:q<rows.length:=by have:=(ir.mp hq).1;rwa [rL]at this
     have Fv:row=(ah (c.length+1)).map fun x=>di (bF N (q:Int) x):=by rw[x4 TX]at hq;exact(xw hq).symm
     have tf:=cF n (mT hn);have TY:af m.2 (q:Int)=n:=by
      unfold af;rw[zw,ba,hn];rfl
     have rl:row.length=c.length+1:=by rw[Fv,aa,bM]
     refine⟨n.toNat,di (bF N (q:Int) n+o),?_,?_,?_⟩
     ·unfold dv;rw[lp tf.1,lp (by rw[rl];omega)]
     ·rw[x4 TX];congr 1;rw[Fv];refine akj (by rw[ET,aa,aa]) fun i h1 h2=>?_
      rw[List.getElem_set];rw[aa,bM]at h1;have gi:(ah (c.length+1))[i]'(by rw[bM];exact h1)=(i:Int):=by
       have:=rY h1;rw[ab (by rw[bM];exact h1)]at this;exact xw this
      rw[TM,TM,gi,Y9];by_cases e:n.toNat=i
      ·rw[lp e,lp (by rw[TY];omega),show(i:Int)=n by omega]
      ·rw[mf e,mf (by rw[TY];omega),Int.add_zero]
     ·refine Ev.pk (t:=ti (bF N (q:Int) n+o)) (eI (dU (d:=di (bF N (q:Int) n)) (ae 12 rfl) (ae 13 rfl) (oM row) ?_) (ae 9 rfl)) True.intro;rw[Fv];have:=rY (n:=c.length+1) (i:=n.toNat) (by omega);have at_:bu ((ah (c.length+1)).map fun x=>di (bF N (q:Int) x)) ((n.toNat:Nat):Int)=some (di (bF N (q:Int) ((n.toNat:Nat):Int))):=iV (by rw[ee,this];rfl);rwa [show((n.toNat:Nat):Int)=n by omega]at at_
    exact aF (aP 8 (Ev.s (eI (ae 8 rfl) (ae 9 rfl))) (fun _=>gY.nd))
  ·have ol:(dR L D M).length=M.length:=by unfold dR;rw[aa]
   have wo:=fun a x=>abL D0 hd a x
   have eS:dY L (cZ D M)=L:=by
    have h2:=(wo 0 0).2;rw[mx.lE,Me D L]at h2;have h3:=EN (by omega) h2;refine Eq.trans ?_ h3;unfold dY cZ dR;rw[gz,gz];rfl
   rw[aa,Mc (by omega),Mc (by omega),eS];refine tT (d:=.lst ((gR rows.length c.length (dR L D M)).map Dv.lst)) 7 rfl (by
    rw[dk];exact congrArg Dv.lst (ma fun r _=>oM r)) ?_
   refine ax (cH (Et.s (kM (ae 8 rfl) (ae 3 rfl))) (by rw[u4 rfl];rfl)) ?_;refine ax (e7 (bp.s (NP T.Ej (ae 2 rfl) (ae 7 rfl) rfl rfl)) (eK 12 14 (fun _=>gY.nd)) (fun _=>[some (.fz (eV D M)),some (.fz (dis c)),some (.fz (bI W rows)),some (ti L),none,none,some (ti L),some (.fz (.lst ((gR rows.length c.length (dR L D M)).map Dv.lst))),some (ti L),none,none,none,none,none,none,none,none]) rfl (fun _=>rfl) (fun j d hj=>?_)) (aF (bL (Ev.s uN)));obtain⟨x,y,hx,hy,rfl⟩:=CG hj;obtain⟨r,hr,rfl⟩:=dH hx;have jl:j<rows.length:=(ir.mp hr).1;rw[ee,x4 jl]at hy;have ey:=xw hy;subst ey;have r7:=im.r7 r (mT hr);refine⟨_,[some (.fz (eV D M)),some (.fz (dis c)),some (.fz (bI W rows)),some (ti L),none,none,some (ti L),some (.fz (.lst ((gR rows.length c.length (dR L D M)).map Dv.lst))),some (ti L),none,none,none,some (.fz (cn W r)),none,some (.fz (.lst ((ah (c.length+1)).map fun x=>di (bF (dR L D M) (j:Int) x)))),none,none],rfl,?_,[12,14],rfl⟩;refine aF (e7 (bp.s (NP T.Ej (ae 12 rfl) (ae 14 rfl) rfl rfl)) (eK 15 16 (fun _=>gY.nd)) (fun _=>[some (.fz (eV D M)),some (.fz (dis c)),some (.fz (bI W rows)),some (ti L),none,none,some (ti L),some (.fz (.lst ((gR rows.length c.length (dR L D M)).map Dv.lst))),some (ti L),none,none,none,some (.fz (cn W r)),none,some (.fz (.lst ((ah (c.length+1)).map fun x=>di (bF (dR L D M) (j:Int) x)))),none,none]) rfl (fun _=>rfl) (fun i d hi=>?_));obtain⟨x,y,hx,hy,rfl⟩:=CG hi;obtain⟨s,hs,rfl⟩:=dH hx;have il:i<r.length:=(ir.mp hs).1;rw[ee,rY (by omega)]at hy;have ey:di (bF (dR L D M) (j:Int) (i:Int))=y:=xw hy;subst ey;have wt:=mx.wt (j:Int) (i:Int) (by omega) (by omega) (by omega) (by omega);have er:rows.getD ((j:Int)).toNat []=r:=by rw[zw,ba,hr];rfl
   have es:af r (i:Int)=s:=by unfold af;rw[zw,ba,hs];rfl
   rw[er,es]at wt;have w1:=(wo (j:Int) (i:Int)).1;have cr:=gg (s:=bF M (j:Int) (i:Int)) D0;rw[wt]at cr;have key:bF (dR L D M) (j:Int) (i:Int)*(fW W s).2=(fW W s).1*L:=by
    refine EN (show D ≠ 0 by omega) ?_;rw[BN,w1,BN _ L D,cr,BN]
   have q0:=dI (s:=s) im.w0;have sb:=im.sb r (mT hr) s (mT hs);have q1:=yA (s:=s) im.w0;have f1:=uH (s:=s) im.w0;have w70:W.natAbs<2 ^ 70:=by have:=im.w1;omega
   have a0:bu [di (fW W s).1,di (fW W s).2] 0=some (di (fW W s).1):=rfl;have a1:bu [di (fW W s).1,di (fW W s).2] 1=some (di (fW W s).2):=rfl;generalize bF (dR L D M) (j:Int) (i:Int)=t at key;generalize fW W s=g at key q0 q1 f1 a0 a1;have g1:g.1.natAbs<2 ^ 70:=by omega
   have g2:g.2.natAbs<2 ^ 70:=by omega
   have tb1:t.natAbs<2 ^ (70+4000):=by
    have e:=congrArg Int.natAbs key;rw[WE]at e;have e2:=uI g1 l2;rw[<- e]at e2;have:t.natAbs*1<=t.natAbs*g.2.natAbs:=Nat.mul_le_mul_left _ (by omega);omega
   refine⟨_,[some (.fz (eV D M)),some (.fz (dis c)),some (.fz (bI W rows)),some (ti L),none,none,some (ti L),some (.fz (.lst ((gR rows.length c.length (dR L D M)).map Dv.lst))),some (ti L),none,none,none,some (.fz (cn W r)),none,some (.fz (.lst ((ah (c.length+1)).map fun x=>di (bF (dR L D M) (j:Int) x)))),some (tF g),some (ti t)],rfl,?_,[15,16],rfl⟩;refine aF (cH (cK.to (q:=false) (Et.s (kM (d9 (ae 16 rfl) (aY (ae 15 rfl) av rfl a1) ⟨ck tb1 (by decide),ck g2 (by decide)⟩) (d9 (aY (ae 15 rfl) av rfl a0) (ae 3 rfl) ⟨ck g1 (by decide),i6 l2⟩))) ?_) rfl);rw[key,u4 rfl];rfl
end
section
variable {P:Program}{w:World}{K:Frag}{mg:Str->Option Value}{base:Heap}
def cS (A n:Nat)(N:List (Int×LI)):LL:=(ah A).map fun a=>(ah (n+1)).map fun x=>bF N a x
theorem Ex (y w:Int):∀ l:LI,(l.map fun x=>if y=x then w else 0).sum=w*(l.count y:Int)
 |[] => (akH w).symm
 |x::l=>by
  rw[i8,ue,Ex y w l,OK];by_cases h:y=x
  ·rw[lp h,lp (by rw[h];exact beq_self_eq_true x),ajQ,Int.mul_add];show _=_+w*1;omega
  ·rw[mf h,mf (by intro z;exact h (OR.mp z).symm)];simp
theorem s_row {y w:Int}{k:Nat}(h0 : 0<=y)(h1:y<k):((ah k).map fun x=>if y=x then w else 0).sum=w:=by
 rw[Ex,(oh k).count,lp (aW.mpr ⟨h0,h1⟩)];show w*1=w;omega
theorem acn (d:LI)(x w:Int):((ah d.length).map fun a=>if af d a=x then w else 0).sum=w*(d.count x:Int):=by
 have e:(ah d.length).map (af d)=d:=by
  refine akj (by rw[aa,bM]) fun i h1 h2=>?_
  rw[TM];have:(ah d.length)[i]'(by rw[bM];exact h2)=(i:Int):=by
   have:=rY h2;rw[ab (by rw[bM];exact h2)]at this;exact xw this
  rw[this];unfold af;rw[zw,ba,ab h2];rfl
 have g:((ah d.length).map fun a=>if af d a=x then w else 0)=((ah d.length).map (af d)).map fun y=>if x=y then w else 0:=by
  rw[gz];refine ma fun a _=>?_
  show _=if x=af d a then w else 0
  by_cases h:af d a=x
  ·rw[lp h,lp h.symm]
  ·rw[mf h,mf fun z=>h z.symm]
 rw[g,e,Ex]
structure WN (W:Int) (c:LI) (A:Nat) (N:List (Int×LI)):Prop where
 w0 : 0<W
 w1:W<2 ^ 70
 c6:c.length<=6
 c9:∀ x ∈ c,0<=x/\x<=9
 a1 : 1<=A
 a6:A<=6
 ok:∀ m ∈ N,0<=m.1/\m.2.length=A/\∀ x ∈ m.2,0<=x/\x<=c.length
 lE:(N.map (·.1)).sum=W
 col:∀ x:Int,0<=x->x<c.length->(N.map fun m=>m.1*(m.2.count x:Int)).sum<=af c x*W
theorem Oy {n A:Nat}:∀ {N:List (Int×LI)},(∀ m ∈ N,0<=m.1/\m.2.length=A/\∀ x ∈ m.2,0<=x/\x<=(n:Int))->(∀ a:Int,0<=a->a<A->((ah (n+1)).map fun x=>bF N a x).sum=(N.map (·.1)).sum)/\(∀ x:Int,((ah A).map fun a=>bF N a x).sum=(N.map fun m=>m.1*(m.2.count x:Int)).sum)/\∀ a x:Int,0<=bF N a x/\bF N a x<=(N.map (·.1)).sum
 |[],_=>by
  have z:∀ l:LI,(l.map fun _=>(0:Int)).sum=0:=fun l=>by induction l with
   |nil=>rfl
   |cons x l ih=>rw[i8,ue,ih];rfl
  exact⟨fun a _ _=>z _,fun x=>z _,fun a x=>⟨YE _,YE _⟩⟩
 |m::N,h=>by
  obtain⟨i1,i2,i3⟩:=Oy (N:=N) fun m hm=>h m (.tail _ hm)
  obtain⟨m0,ml,mr⟩:=h m (.head _);refine⟨fun a a0 a1=>?_,fun x=>?_,fun a x=>?_⟩
  ·have e:((ah (n+1)).map fun x=>bF (m::N) a x)=(ah (n+1)).map fun x=>(fun x=>if af m.2 a=x then m.1 else 0) x+(fun x=>bF N a x) x:=ma fun x _=>oz m N a x
   have hl:=mr (af m.2 a) (iZ a0 (by omega));rw[e,xq,i1 a a0 a1,s_row hl.1 (by omega),i8,ue]
  ·have e:((ah A).map fun a=>bF (m::N) a x)=(ah A).map fun a=>(fun a=>if af m.2 a=x then m.1 else 0) a+(fun a=>bF N a x) a:=ma fun a _=>oz m N a x
   rw[e,xq,i2 x,i8,ue,<- ml,acn]
  ·have:=i3 a x;rw[oz,i8,ue];split<;>omega
theorem Dc {A n:Nat}{N:List (Int×LI)}{r:LI}(h:r ∈ cS A n N):∃ a:Int,0<=a/\a<A/\r=(ah (n+1)).map fun x=>bF N a x:=by
 obtain⟨a,ha,rfl⟩:=i4.mp h;have:=aW.mp ha;exact⟨a,this.1,this.2,rfl⟩
theorem WN.mix {W:Int}{c:LI}{A:Nat}{N:List (Int×LI)}(h:WN W c A N):yF W c (cS A c.length N)/\∀ D M,Ft W c (cS A c.length N) D M->Ad W c (cS A c.length N) D M:=by
 obtain⟨s1,s2,s3⟩:=Oy (n:=c.length) h.ok;have a6:=h.a6;have c6:=h.c6;have rl:(cS A c.length N).length=A:=by unfold cS;rw[aa,bM]
 have sb:∀ r ∈ cS A c.length N,∀ s ∈ r,0<=s/\s<=W:=fun r hr s hs=>by
  obtain⟨a,_,_,rfl⟩:=Dc hr;obtain⟨x,_,rfl⟩:=i4.mp hs;have:=s3 a x;rw[h.lE]at this;exact this
 have r7:∀ r ∈ cS A c.length N,r.length=c.length+1:=fun r hr=>by
  obtain⟨a,_,_,rfl⟩:=Dc hr;rw[aa,bM]
 refine⟨⟨⟨h.w0,h.w1,by rw[rl];omega,fun r hr=>⟨by rw[r7 r hr];omega,fun s hs=>by have:=sb r hr s hs;have:=h.w0;omega⟩⟩,h.c6,h.c9,fun z=>?_,by rw[rl];exact h.a6,?_⟩,fun D M mx=>⟨mx,h.c6,by rw[rl];exact h.a6,r7,h.w0,h.w1,sb⟩⟩
 ·have:=congrArg List.length z;rw[rl]at this;have:=h.a1;simp at *;omega
 ·unfold kR;rw[BS,LM,LM];refine⟨fun r hr=>?_,fun x hx=>?_⟩
  ·have l7:=r7 r hr;have b:=sb r hr;obtain⟨a,a0,a1,rfl⟩:=Dc hr;unfold ie;rw[u4 l7,s1 a a0 a1,h.lE,u4 rfl,LM.mpr fun s hs=>u4 (b s hs).1];rfl
  ·obtain⟨x0,x1⟩:=aW.mp hx;refine u4 ?_;have e:gy (cS A c.length N) x=(ah A).map fun a=>bF N a x:=by
    unfold gy cS;rw[gz];refine ma fun a _=>?_
    exact xk _ x0 (by omega)
   rw[e,s2 x];exact h.col x x0 x1
def stN (st:List gJ):List (Int×LI):=st.map fun s=>(s.len,s.ay)
theorem Za (st:List gJ)(a x:Int):nc st a x=bF (stN st) a x:=by
 unfold nc bF stN;rw[ajM,gz];rfl
theorem Nq {m:Nat}{fo:LL}(F:mw m fo){x:Int}(h0 : 0<=x)(h1:x<m):∀ (n:Nat) (l:LI) (τ:Int),lq n m l τ->((stN (gO n fo l τ)).map fun m=>m.1*(m.2.count x:Int)).sum<=af l x
 |0,l,τ,S=>(S.lb _ (iZ h0 (by rw[S.len];exact h1))).1
 |n+1,l,τ,S=>by
  by_cases ht : τ=0
  ·rw[ht,wR];exact(S.lb _ (iZ h0 (by rw[S.len];exact h1))).1
  ·have ok:=xV F S ht;have ih:=Nq F h0 h1 n _ _ ok.next
   have e:af (dq l (bB fo l) (cQ l (bB fo l) τ)) x=af l x-cQ l (bB fo l) τ*((bB fo l).count x:Int):=by
    unfold dq;exact xk _ h0 (by rw[S.len];exact h1)
   rw[wG ht];show(List.map _ (_::stN _)).sum<=_;rw[i8,ue];show cQ l (bB fo l) τ*((bB fo l).count x:Int)+_<=_;omega
theorem aai {c:LI}{os:LL}(ok:gq c os):WN WM c os.length (stN (gN c os)):=by
 have iC:=Oa ok;have S:=Cp ok.c6 ok.cnt;refine⟨fk,mO,ok.c6,ok.cnt,ok.o1,ok.o6,fun m hm=>?_,?_,fun x x0 x1=>?_⟩
 ·obtain⟨s,hs,rfl⟩:=i4.mp hm;obtain⟨l',hl,e,p,_⟩:=Cm iC 7 _ _ S s hs;refine⟨ak6 p,by show s.ay.length=_;rw[e,xS,aa],fun x hx=>?_⟩;have:=Pq iC hl (x:=x) (by rw[<- e];exact hx);exact⟨this.1,this.2.1⟩
 ·unfold stN;rw[gz];exact M4 iC 7 _ _ S
 ·have:=Nq iC x0 x1 7 _ _ S;have e:af (c.map (·*WM)) x=af c x*WM:=by
   unfold af;rw[ba,ba,ee];cases c[x.toNat]? with
   |none=>simp
   |some v=>rfl
  rw[e]at this;exact this
def kB (D:LL):List (Int×LI):=D.map fun d=>(1,d)
theorem abM (D:LL)(a x:Int):sV D a x=bF (kB D) a x:=by
 unfold sV
 induction D with
 |nil=>rfl
 |cons d D ih =>
  have e:kB (d::D)=(1,d)::kB D:=rfl;rw[e,oz,<- ih,Lo];by_cases h:af d a=x
  ·simp[h];omega
  ·simp[h]
theorem Zb {c:LI}{os:LL}(ok:gq c os){ts:LI}(hp:ts.Perm (ah os.length)):∀ x ∈ dJ c os ts,0<=x/\x<=c.length:=fun x hx=>by
 obtain⟨v,hv,rfl⟩:=i4.mp hx;obtain⟨i,hi⟩:=List.getElem?_of_mem hv;have il:i<os.length:=by have:=(ir.mp hi).1;rwa [mV]at this
 obtain⟨j,hj⟩:=List.getElem?_of_mem (hp.mem_iff.mpr (aW.mpr ⟨show(0:Int)<=(i:Nat) by omega,by omega⟩));have:=XU (c:=c) (os:=os) hp hj;rw[zw,hi]at this;obtain⟨x,r,hx⟩:=CU c (os.getD i []) (cI c os (ts.take j));have ho:∀ x ∈ os.getD i [],0<=x/\x<c.length:=fun x hx=>by
  rw[ba,ab il]at hx;exact ok.cF _ (MW _) x hx
 have rr:=YL ho x (MX hx).1;rw[xw this];show 0<=kN c _ _/\kN c _ _<=_;unfold kN;rw[hx];exact rr
theorem X7 (y:Int)(d:LI):iJ (d.map V.int) y=d.count y:=by
 unfold iJ;rw[ak7,List.count];rfl
theorem Zc {c:LI}{os:LL}(ok:gq c os){ts:LI}(hp:ts.Perm (ah os.length)){x:Int}(x0 : 0<=x)(x1:x<c.length):((dJ c os ts).count x:Int)<=af c x:=by
 have:=YM ok hp ts.length (br _) x x0 x1;rw[Mn,LO hp,X7]at this;exact this
theorem Zd {c:LI}{os:LL}(ok:gq c os)(o5:os.length<=5):WN (wT os) c os.length (kB (df c os)):=by
 have tl:=wO os.length o5;have each:=LQ os.length o5;have al:(df c os).length=(cN os.length os.length).length:=by unfold df;rw[aa]
 refine⟨by show(0:Int)<((cN os.length os.length).length:Nat);omega,by show((cN os.length os.length).length:Int)<2 ^ 70;exact ajR (show _<=(120:Int) by omega) (by decide),ok.c6,ok.cnt,ok.o1,ok.o6,fun m hm=>?_,?_,fun x x0 x1=>?_⟩
 ·obtain⟨d,hd,rfl⟩:=i4.mp hm;obtain⟨ts,ht,rfl⟩:=i4.mp hd;exact⟨by show(0:Int)<=1;decide,by show(dJ c os ts).length=_;unfold dJ;rw[aa,mV],Zb ok (each ts ht)⟩
 ·have:∀ D:LL,((kB D).map (·.1)).sum=(D.length:Int):=fun D=>by
   induction D with
   |nil=>rfl
   |cons d D ih =>
    show(List.map _ ((1,d)::kB D)).sum=_;rw[i8,ue,ih,AN];omega
  rw[this,al]
 ·have key:∀ D:LL,(∀ d ∈ D,(d.count x:Int)<=af c x)->((kB D).map fun m=>m.1*(m.2.count x:Int)).sum<=af c x*(D.length:Int):=fun D=>by
   induction D with
   |nil=>intro _;show(0:Int)<=af c x*0;omega
   |cons d D ih =>
    intro h;have i:=ih fun d hd=>h d (.tail _ hd)
    have h0:=h d (.head _);show(List.map _ ((1,d)::kB D)).sum<=_;rw[i8,ue,AN,ajQ,Int.mul_add];show 1*(d.count x:Int)+_<=_+af c x*1;omega
  have:=key (df c os) fun d hd=>by
   obtain⟨ts,ht,rfl⟩:=i4.mp hd;exact Zc ok (each ts ht) x0 x1
  rw[al]at this;exact this
end
section
variable {P:Program}{w:World}{K:Frag}{mg:Str->Option Value}{base:Heap}
def vw:Stmt->List Stmt
 | .For _ _ b _ _=>b
 |_=>[]
abbrev TZ:List Str:=["_law_script", "_law_k", "_law_counts", "_law_orders", "_law_table_here", "_law_shares", "_law_kept", "_law_mix"]
abbrev hG:Stmt:=top 73
theorem ni:aZ TZ ["_law_script"] (aq hG):=bt
theorem DX (W:Int)(A n:Nat)(N:List (Int×LI)):bI W (cS A n N)=.lst ((ah A).map fun a=>.lst ((ah (n+1)).map fun x=>dF (fW W (bF N a x)))):=by
 unfold cS;show Dv.lst _=Dv.lst _;rw[gz];congr 1;refine ma fun a _=>?_
 show Dv.lst _=Dv.lst _;rw[gz];rfl
theorem abN {f f1 f2 f3 f4 f5 f6 f7 f8 f9:Addr}{fd aI fd2 eE mN vX vY vZ fd8 fd9:FuncData}{k:Nat}(F:aV K "law" "law" hG f fd)(T:Txt mg)(Wo:Kn P w K mg base ak (k+2) "_law_table" f1 aI ["_law_script", "_law_start"] (spT K DV))(Xf:Kn P w K mg base ak (k+2) "table_of" f2 fd2 ["counts", "orders"] (spT K Q5))(abO:Kn P w K mg base ak (k+6) "meal" f3 eE ["table"] (spT K Qu))(qw:Kn P w K mg base ak (k+1) "_law_cell_at" f4 mN ["_law_script", "_law_k"] (spT K yG))(V3:Kn P w K mg base ak (k+7) "turn_shares" f5 vX ["table"] (spT K Lw))(Ze:Kn P w K mg base ak (k+12) "mix_of" f6 vY ["counts", "shares"] (spT K Rf))(V4:Kn P w K mg base ak (k+3) "_law_is_mix" f7 vZ ["_law_mix", "_law_counts", "_law_shares"] (spT K yq))(Vc:Kn P w K mg base ak (k+5) "_law_tickets_told" f8 fd8 ["_law_mix", "_law_counts", "_law_shares"] (spT K yq))(Bn:Kn P w K mg base ak (k+6) "shares_of" f9 fd9 ["counts", "mix"] (spT K BQ)):aJ P w K mg base ak (k+13) f fd ["_law_script"] (spT K QT):=by
 refine bD F.d ni (fun dd t h=>by obtain⟨_,_,rfl,_⟩:=h;rfl) fun dd t h=>?_
 obtain⟨ns,iz,rfl,rfl⟩:=h;refine⟨_,.inl rfl,?_⟩;have big : 1000<sizeLine:=by decide
 have nl:(((ns.map di).length:Nat):Int)=ns.length:=by rw[aa]
 have q14:=ajf (a:=if(((ns.map di).length:Nat):Int)-2 > 0 then (((ns.map di).length:Nat):Int)-2 else 0) (b:=14) (by split<;>omega) (by decide);refine ax (e7 (bp.s (iE T.gL (Zz T.ab9 av (eI av (gh (Zy T.ab8 av (se (bS T.bQ (ae 0 rfl) (.inl rfl)) av)) av ⟨by decide,iT (by decide) (by decide)⟩))) (by split<;>omega))) (bJ 1 (fun _=>ni.nd)) (fun _=>[some (.fz (dis ns)),none,none,none,none,none,none,none]) rfl (fun _=>rfl) (fun j d hd=>?_)) (aF (bL (Ev.s uN)));obtain⟨hj,rfl⟩:=xM hd;have j3:j<3:=by
  refine AS hj ?_;split<;>omega
 clear hj hd;generalize S2:(0+(j:Int))=ji;have ok:=abF ns (1+13*ji);have rt:DV [dis ns,di (1+13*ji)] (.fz (.tup [dis (iF ns (1+13*ji)),.lst ((oH ns (1+13*ji)).map dis)])):=⟨ns,1+13*ji,by omega,rfl,rfl⟩
 generalize iF ns (1+13*ji)=c at ok rt;generalize oH ns (1+13*ji)=os at ok rt;have o6:=ok.o6;have c6:=ok.c6;have rest:∀ (W:Int) (N:List (Int×LI)),WN W c os.length N->∃ X:Dv,bw (cC P w K mg base TZ "law" (aq hG) f (k+12)) ((vw ((aM hG).getD 0 (.Pass ⟨0,0,0,0⟩))).drop 4) [some (.fz (dis ns)),some (ti ji),some (.fz (dis c)),some (.fz (.lst (os.map dis))),some (.fz (gP c os)),some (.fz (bI W (cS os.length c.length N))),none,none] (.nx [some (.fz (dis ns)),some (ti ji),some (.fz (dis c)),some (.fz (.lst (os.map dis))),some (.fz (gP c os)),some (.fz (bI W (cS os.length c.length N))),some (.fz (bI W (cS os.length c.length N))),some (.fz X)]):=fun W N wn=>by
  obtain⟨mi,im⟩:=wn.mix;obtain⟨D,M,mx⟩:=mi.sem;have im:=im D M mx;have rl:(cS os.length c.length N).length=os.length:=by unfold cS;rw[aa,bM]
  have mxs:zY D os.length M:=⟨mx.D0,akF mx.D1 (by decide),fun m hm=>?_,zd mx.tQ (by decide),o6⟩
  have Mne:M ≠ []:=fun z=>by
   have:=mx.lE;rw[z]at this;have h0:(0:Int)=D:=this;have:=mx.D0;omega
  have T1:er (Fh D os.length c.length M)=bI W (cS os.length c.length N):=by
   rw[DX,dk];congr 1;refine ma fun a ha=>?_
   obtain⟨a0,a1⟩:=aW.mp ha;rw[dk];congr 1;refine ma fun x hx=>?_
   obtain⟨x0,x1⟩:=aW.mp hx;have wt:=mx.wt a x a0 (by rw[rl];exact a1) x0 (by omega);have e:af ((cS os.length c.length N).getD a.toNat []) x=bF N a x:=by
    unfold cS;rw[ba,ee,rY (show a.toNat<os.length by omega),show((a.toNat:Nat):Int)=a by omega];exact xk _ x0 (by omega)
   rw[e]at wt;show dF (fW D (bF M a x))=_;rw[wt]
  have T2:er (.ow ((uQ W c (cS os.length c.length N)).map kz))=eV D M:=by
   rw[mx.eq,dk,gz];refine congrArg Dv.lst (ma fun m _=>?_);show Dv.tup [_,er (aU m.2)]=_;rw[eZ];rfl
  have r7:=im.r7;generalize cS os.length c.length N=rows at mi im rl T1 T2 r7;have ek:er (.ow (rows.map fun r=>Tr.ow ((r.map fun s=>dF (fW W s)).map .fz)))=bI W rows:=by
   rw[dk];exact congrArg Dv.lst (ma fun r _=>oM _)
  have eq1:cJ (bI W rows) (bI W rows)=true:=w8 (abJ W rows);have T3:fj (bI W rows)<=50:=zd (abH W rows) (by decide);refine⟨eV D M,?_⟩;show bw _ [(vw ((aM hG).getD 0 (.Pass ⟨0,0,0,0⟩))).getD 4 (.Pass ⟨0,0,0,0⟩),(vw ((aM hG).getD 0 (.Pass ⟨0,0,0,0⟩))).getD 5 (.Pass ⟨0,0,0,0⟩),(vw ((aM hG).getD 0 (.Pass ⟨0,0,0,0⟩))).getD 6 (.Pass ⟨0,0,0,0⟩),(vw ((aM hG).getD 0 (.Pass ⟨0,0,0,0⟩))).getD 7 (.Pass ⟨0,0,0,0⟩)] _ _;refine ax (i5 6 (j6 (dD.as (d:=bI W rows) (j7 (own:=["_law_row"]) (fr:=[]) rows (cn W) (fun r=>Tr.ow ((r.map fun s=>dF (fW W s)).map .fz)) (bR (ae 5 rfl) rfl) (bJ 0 (fun _=>by show List.Nodup (["_law_row"]:List Str);decide)) (by decide) (by omega) (fun r hr=>⟨_,rfl,by exact oE T.jA (ae 0 rfl) (.inl rfl)⟩) (fun dd=>by cases dd<;>rfl)) ek)) (fun i=>bV) (fun _=>ni.nd)) ?_;refine ax (aP 7 (Ev.s (Ev.as (d:=eV D M) (aG Ze (br _) (aj (Ev.as (d:=dis c) (oE T.jA (ae 2 rfl) (.inl rfl)) (oM _)) (aj (ae 5 rfl) aw)) ⟨W,c,rows,mi,rfl,rfl⟩) T2)) (fun _=>ni.nd)) ?_;refine ax (cH (cK.to (q:=false) (Et.s (Ew.et (gk (lQ (ae 5 rfl) (ae 6 rfl) (.inl ⟨_,_,rfl,rfl⟩) T3) fun _=>(jV (gM (eJ (aG (t:=tb true) V4 (by show k+3<=k+12;omega) (aj (ae 7 rfl) (aj (ae 2 rfl) (aj (ae 5 rfl) aw))) ⟨W,c,rows,D,M,im,rfl,rfl⟩))))))) (by
   show(!cJ (bI W rows) (bI W rows) || !true)=false;rw[eq1];rfl)) rfl) ?_
  refine aF (cH (cK.to (q:=false) (Et.s (Ew.et (gk (gM (eJ (aG (t:=tb true) Vc (by show k+5<=k+12;omega) (aj (ae 7 rfl) (aj (ae 2 rfl) (aj (ae 5 rfl) aw))) ⟨W,c,rows,D,M,im,rfl,rfl⟩))) fun _=>(jV (lQ (Ev.as (d:=bI W rows) (aG Bn (by show k+6<=k+12;omega) (aj (ae 2 rfl) (aj (ae 7 rfl) aw)) ⟨D,os.length,M,c,mxs,Mne,c6,rfl,rfl⟩) T1) (ae 6 rfl) (.inl ⟨_,_,rfl,rfl⟩) T3))))) (by
   show(!true || !cJ (bI W rows) (bI W rows))=false;rw[eq1];rfl)) rfl)
  ·have hp:=mx.pos m hm;have le:=(DW (l:=M.map (·.1)) fun x hx=>by
    obtain⟨m,hm,rfl⟩:=i4.mp hx;exact mx.pos m hm).2 m.1 (akq (f:=(·.1)) hm)
   rw[mx.lE]at le;exact⟨ak6 hp,le,by rw[mx.len m hm,rl]⟩
 have eM:rW c.length (gN c os) os.length=bI WM (cS os.length c.length (stN (gN c os))):=by
  rw[DX];unfold rW;congr 1;refine ma fun a _=>?_
  unfold Ep;show Dv.lst _=Dv.lst _;rw[gz];refine congrArg Dv.lst (ma fun x _=>?_);show dF (fW WM (nc _ a x))=_;rw[Za]
 have eT:er (zZ (wT os) os.length c.length (df c os))=bI (wT os) (cS os.length c.length (kB (df c os))):=by
  unfold zZ;rw[DX,dk];congr 1;refine ma fun a _=>?_
  rw[dk];refine congrArg Dv.lst (ma fun x _=>?_);show dF (fW _ (sV _ a x))=_;rw[abM]
 obtain⟨W,N,wn,ac6⟩:∃ (W:Int) (N:List (Int×LI)),WN W c os.length N/\((decide (bP ns 0 / (ji+1) % 3=1)&&decide ((((os.map dis).length:Nat):Int)<5))=true/\W=wT os/\N=kB (df c os)\/(decide (bP ns 0 / (ji+1) % 3=1)&&decide ((((os.map dis).length:Nat):Int)<5))=false/\W=WM/\N=stN (gN c os)):=by
  cases h:decide (bP ns 0 / (ji+1) % 3=1)&&decide ((((os.map dis).length:Nat):Int)<5)with
  |true =>
   rw[BS]at h;have:=Cn h.2;rw[aa]at this;exact⟨_,_,Zd ok (by omega),.inl ⟨rfl,rfl,rfl⟩⟩
  |false=>exact⟨_,_,aai ok,.inr ⟨rfl,rfl,rfl⟩⟩
 obtain⟨X,T4⟩:=rest W N wn;refine⟨_,[some (.fz (dis ns)),some (ti ji),some (.fz (dis c)),some (.fz (.lst (os.map dis))),some (.fz (gP c os)),some (.fz (bI W (cS os.length c.length N))),some (.fz (bI W (cS os.length c.length N))),some (.fz X)],rfl,?_,[1,2,3,4,5,6,7],rfl⟩;refine ax (Zx (Ev.s (aG Wo (by show k+2<=k+12;omega) (aj (ae 0 rfl) (aj (eI av (d9 av (ae 1 rfl) ⟨iT (by decide) (by decide),iT (by omega) (by omega)⟩)) aw)) rt)) (eK 2 3 (fun _=>ni.nd)) rfl) ?_;show bw _ _ [some (.fz (dis ns)),some (ti ji),some (.fz (dis c)),some (.fz (.lst (os.map dis))),none,none,none,none] _;refine ax (aP 4 (Ev.s (Ev.as (d:=gP c os) (aG Xf (by show k+2<=k+12;omega) (aj (ae 2 rfl) (aj (ae 3 rfl) aw)) ⟨c,os,ok,rfl,rfl⟩) (by show Dv.tup [er _,er _]=_;rw[eZ,lM];rfl))) (fun _=>ni.nd)) ?_;refine ax (aP 5 (bx.to (t':=.fz (bI WM (cS os.length c.length (stN (gN c os))))) (Ev.s (aY (d:=rW c.length (gN c os) os.length) (aG abO (by show k+6<=k+12;omega) (aj (ae 4 rfl) aw) ⟨c,os,ok,Oa ok,rfl,rfl⟩) av rfl rfl)) (by rw[eM])) (fun _=>ni.nd)) ?_;rcases ac6 with⟨hc,rfl,rfl⟩ | ⟨hc,rfl,rfl⟩
 ·refine ax (oN (cK.to (Et.s (Ew.et (si (jD (gZ (gh (aG qw (by show k+1<=k+12;omega) (aj (ae 0 rfl) (aj av aw)) ⟨ns,0,by decide,rfl,rfl⟩) (eI (ae 1 rfl) av) ⟨by omega,iT (by omega) (by omega)⟩) av (by decide)) av) fun _=>(rP (jW (bS T.bQ (ae 3 rfl) (.inl rfl)) av))))) rfl) hc (aF (aP 5 (Ev.s (Ev.as (d:=bI (wT os) (cS os.length c.length (kB (df c os)))) (aG V3 (by show k+7<=k+12;omega) (aj (ae 4 rfl) aw) ⟨c,os,ok,by
   rw[BS]at hc;have:=Cn hc.2;rw[aa]at this;omega,rfl,rfl⟩) eT)) (fun _=>ni.nd)))) ?_
  exact T4
 ·refine ax (cH (cK.to (Et.s (Ew.et (si (jD (gZ (gh (aG qw (by show k+1<=k+12;omega) (aj (ae 0 rfl) (aj av aw)) ⟨ns,0,by decide,rfl,rfl⟩) (eI (ae 1 rfl) av) ⟨by omega,iT (by omega) (by omega)⟩) av (by decide)) av) fun _=>(rP (jW (bS T.bQ (ae 3 rfl) (.inl rfl)) av))))) rfl) hc) ?_;exact T4
end
end bH
namespace bH
open PySem L2
theorem iS {α:Type}{us:List α}(h:us.length=1):∃ a0,us=[a0]:=by
 rcases us with _ | ⟨a0,us⟩;· cases h
 rcases us with _ | ⟨b,us⟩
 ·exact⟨a0,rfl⟩
 ·simp at h
theorem dG {α:Type}{us:List α}(h:us.length=2):∃ a0 a1,us=[a0,a1]:=by
 rcases us with _ | ⟨a0,us⟩;· cases h
 rcases us with _ | ⟨a1,us⟩;· cases h
 rcases us with _ | ⟨b,us⟩
 ·exact⟨a0,a1,rfl⟩
 ·simp at h
theorem lF {α:Type}{us:List α}(h:us.length=3):∃ a0 a1 a2,us=[a0,a1,a2]:=by
 rcases us with _ | ⟨a0,us⟩;· cases h
 rcases us with _ | ⟨a1,us⟩;· cases h
 rcases us with _ | ⟨a2,us⟩;· cases h
 rcases us with _ | ⟨b,us⟩
 ·exact⟨a0,a1,a2,rfl⟩
 ·simp at h
theorem T5 {α:Type}{us:List α}(h:us.length=5):∃ a0 a1 a2 a3 a4,us=[a0,a1,a2,a3,a4]:=by
 rcases us with _ | ⟨a0,us⟩;· cases h
 rcases us with _ | ⟨a1,us⟩;· cases h
 rcases us with _ | ⟨a2,us⟩;· cases h
 rcases us with _ | ⟨a3,us⟩;· cases h
 rcases us with _ | ⟨a4,us⟩;· cases h
 rcases us with _ | ⟨b,us⟩
 ·exact⟨a0,a1,a2,a3,a4,rfl⟩
 ·simp at h
theorem bA {K:Frag}{h:Heap}{mg:Str->Option Value}(base:Heap)(l:PySem.W.OpenLaw)(w:World)(X:K.In h)(G:h.Ns mainGlobals mg){k:Nat}{n:Str}{f:Addr}{fd:FuncData}{ps:List Str}{sp:Sp}(ok:aJ l.prog w K mg base ak k f fd ps sp)(a:nsIn K mainGlobals n=some (some (.ref f)))(kp:keepIn K (.ref f)=true)(b:Binds K fd ps []):Kn l.prog w K mg base ak k n f fd ps sp:=Kn.mk ok (mg_of X G a) kp b
theorem all_mk {l:PySem.W.OpenLaw}{w:World}{K:Frag}{h:Heap}{mg:Str->Option Value}{fa:Addr}(X:K.In h)(G:h.Ns mainGlobals mg)(hfa:mg "law" = some (.ref fa)){f1:Addr}{od1 an1:Option Addr}{sl1:Array (Option Value)}{oc1 kV1 dc1 pm1 T6 ct1:Value}{f2:Addr}{od2 an2:Option Addr}{Gf:Array (Option Value)}{oc2 kV2 dc2 vT T7 ct2:Value}{f3:Addr}{od3 an3:Option Addr}{sl3:Array (Option Value)}{oc3 kV3 dc3 pm3 T8 ct3:Value}{f4:Addr}{od4 an4:Option Addr}{tN:Array (Option Value)}{oc4 kV4 dc4 pm4 T9 ct4:Value}{f5:Addr}{od5 an5:Option Addr}{sl5:Array (Option Value)}{oc5 kV5 dc5 pm5 Ua ct5:Value}{f6:Addr}{od6 an6:Option Addr}{sl6:Array (Option Value)}{oc6 kV6 dc6 pm6 Ub ct6:Value}{f7:Addr}{od7 Hi:Option Addr}{sl7:Array (Option Value)}{oc7 Hj Hk Hl Ae Hm:Value}{Af:Addr}{do7:Value}{dd7:Option Addr}{dn7:Nat}{ds7:Array (Option Value)}{Uc:Tok}{f8:Addr}{od8 an8:Option Addr}{sl8:Array (Option Value)}{oc8 kV8 dc8 pm8 Ud ct8:Value}{f9:Addr}{od9 an9:Option Addr}{sl9:Array (Option Value)}{oc9 kV9 dc9 pm9 Ue ct9:Value}{Hn:Addr}{ac7 ac8:Option Addr}{ac9:Array (Option Value)}{ada adb ade adf Rj adg:Value}{Ho:Addr}{adh adi:Option Addr}{adj:Array (Option Value)}{adk adl adn ado Rk adp:Value}{Hq:Addr}{adq ads:Option Addr}{adt:Array (Option Value)}{adu adv adw adx Rl ady:Value}{Hr:Addr}{adz adA:Option Addr}{adB:Array (Option Value)}{adC adD adE adF Rm adG:Value}{Hs:Addr}{adH adI:Option Addr}{adJ:Array (Option Value)}{adK adL adM adN Ro adO:Value}{Ht:Addr}{adP adQ:Option Addr}{adR:Array (Option Value)}{adS adT adU adV Rp adW:Value}{Hu:Addr}{adX adY:Option Addr}{adZ:Array (Option Value)}{ad0 ad1 ad2 ad3 Rr ad4:Value}{Hw:Addr}{ad5 ad6:Option Addr}{ad7:Array (Option Value)}{ad8 ad9 aea aeb Rt aec:Value}{Hx:Addr}{aed aee:Option Addr}{aef:Array (Option Value)}{aeg aeh aei aej Ru aek:Value}{Hy:Addr}{ael aem:Option Addr}{aen:Array (Option Value)}{aeo aep aeq aer Rv aes:Value}{Hz:Addr}{aet aeu:Option Addr}{aev:Array (Option Value)}{aew aex aey aez Rw aeA:Value}{HA:Addr}{aeB aeC:Option Addr}{aeD:Array (Option Value)}{aeE aeF aeG aeH Rx aeI:Value}{HB:Addr}{aeJ aeK:Option Addr}{aeL:Array (Option Value)}{aeM aeN aeO aeP Ry aeQ:Value}{HC:Addr}{aeR aeS:Option Addr}{aeT:Array (Option Value)}{aeU aeV aeW aeX Rz aeY:Value}{HD:Addr}{aeZ ae0:Option Addr}{ae1:Array (Option Value)}{ae2 ae3 ae4 ae5 RA ae6:Value}{HE:Addr}{ae7 ae8:Option Addr}{ae9:Array (Option Value)}{afa afb afc afd RB afe:Value}{HF:Addr}{aff afg:Option Addr}{afh:Array (Option Value)}{afi afj afk afl RC afm:Value}{HG:Addr}{afn afo:Option Addr}{afp:Array (Option Value)}{afq afr afs aft RD afu:Value}{HH:Addr}{afv afw:Option Addr}{afx:Array (Option Value)}{afy afz afA afB RE afC:Value}{HI:Addr}{afD afE:Option Addr}{afF:Array (Option Value)}{afG afH afI afJ RF afK:Value}{HJ:Addr}{afL afM:Option Addr}{afN:Array (Option Value)}{afO afP afQ afR RG afS:Value}{HK:Addr}{afT afU:Option Addr}{afV:Array (Option Value)}{afW afX afY afZ RH af0:Value}{HL:Addr}{af1 af2:Option Addr}{af3:Array (Option Value)}{af4 af5 af6 af7 RJ af8:Value}{HM:Addr}{af9 aga:Option Addr}{agb:Array (Option Value)}{agc agd age agf RK agg:Value}{HN:Addr}{agh agi:Option Addr}{agj:Array (Option Value)}{agk agl agm agn RL ago:Value}{HP:Addr}{agp agq:Option Addr}{agr:Array (Option Value)}{ags agt agu agv RM agw:Value}{HQ:Addr}{agx agy:Option Addr}{agz:Array (Option Value)}{agA agB agC agD RN agE:Value}{HR:Addr}{agF agG:Option Addr}{agH:Array (Option Value)}{agI agJ agK agL RO agM:Value}{HS:Addr}{agN agO:Option Addr}{agP:Array (Option Value)}{agQ agR agS agT RP agU:Value}{HU:Addr}{agV agW:Option Addr}{agX:Array (Option Value)}{agY agZ ag0 ag1 RQ ag2:Value}{HV:Addr}{ag3 ag4:Option Addr}{ag5:Array (Option Value)}{ag6 ag7 ag8 ag9 RR aha:Value}{HW:Addr}{ahb ahc:Option Addr}{ahd:Array (Option Value)}{ahe ahf ahg ahh RT ahi:Value}{HX:Addr}{ahj ahk:Option Addr}{ahl:Array (Option Value)}{ahm ahn aho ahp RU ahq:Value}{HY:Addr}{ahr ahs:Option Addr}{aht:Array (Option Value)}{ahu ahv ahw ahx RV ahy:Value}{HZ:Addr}{ahz ahA:Option Addr}{ahB:Array (Option Value)}{ahC ahD ahE ahF RW ahG:Value}{Ia:Addr}{ahH ahI:Option Addr}{ahJ:Array (Option Value)}{ahK ahL ahM ahN RX ahO:Value}{Ib:Addr}{ahP ahQ:Option Addr}{ahR:Array (Option Value)}{ahS ahT ahU ahV RY ahW:Value}{Ic:Addr}{ahX ahY:Option Addr}{ahZ:Array (Option Value)}{ah0 ah1 ah2 ah3 RZ ah4:Value}{Ie:Addr}{ah5 ah6:Option Addr}{ah7:Array (Option Value)}{ah8 ah9 aia aib R3 aic:Value}{Ig:Addr}{aid aie:Option Addr}{aif:Array (Option Value)}{aih aii aij aik R4 ail:Value}{Ih:Addr}{aim ain:Option Addr}{aio:Array (Option Value)}{aip aiq air ais R5 ait:Value}{Ii:Addr}{aiu aiv:Option Addr}{aiw:Array (Option Value)}{aix aiy aiz aiA R6 aiB:Value}{Ij:Addr}{aiC aiD:Option Addr}{aiE:Array (Option Value)}{aiF aiG aiH aiI R7 aiJ:Value}{Ik:Addr}{aiK R8:Option Addr}{aiL:Array (Option Value)}{aiM R9 Sa Sb Fw Sd:Value}{gt1:Tok}{gt2:Tok}{gt3:Tok}(a1:nsIn K mainGlobals "give_thing" = some (some (.ref f1)))(l1:K.lookup f1=some ⟨oc1,od1,.func (fnOf "give_thing" "give_thing" (aS kD) (aM kD) (aq kD) .none kV1 dc1 pm1 an1 T6 ct1),sl1⟩)(c1:codeIn K T6 "give_thing" = true)(k1:keepIn K (.ref f1)=true)(a2:nsIn K mainGlobals "deal_out" = some (some (.ref f2)))(l2:K.lookup f2=some ⟨oc2,od2,.func (fnOf "deal_out" "deal_out" (aS kF) (aM kF) (aq kF) .none kV2 dc2 vT an2 T7 ct2),Gf⟩)(c2:codeIn K T7 "deal_out" = true)(k2:keepIn K (.ref f2)=true)(a3:nsIn K mainGlobals "looked_for" = some (some (.ref f3)))(l3:K.lookup f3=some ⟨oc3,od3,.func (fnOf "looked_for" "looked_for" (aS jO) (aM jO) (aq jO) .none kV3 dc3 pm3 an3 T8 ct3),sl3⟩)(c3:codeIn K T8 "looked_for" = true)(k3:keepIn K (.ref f3)=true)(a4:nsIn K mainGlobals "deal_of" = some (some (.ref f4)))(l4:K.lookup f4=some ⟨oc4,od4,.func (fnOf "deal_of" "deal_of" (aS rq) (aM rq) (aq rq) .none kV4 dc4 pm4 an4 T9 ct4),tN⟩)(c4:codeIn K T9 "deal_of" = true)(k4:keepIn K (.ref f4)=true)(a5:nsIn K mainGlobals "is_whole" = some (some (.ref f5)))(l5:K.lookup f5=some ⟨oc5,od5,.func (fnOf "is_whole" "is_whole" (aS qW) (aM qW) (aq qW) .none kV5 dc5 pm5 an5 Ua ct5),sl5⟩)(c5:codeIn K Ua "is_whole" = true)(k5:keepIn K (.ref f5)=true)(a6:nsIn K mainGlobals "common_part" = some (some (.ref f6)))(l6:K.lookup f6=some ⟨oc6,od6,.func (fnOf "common_part" "common_part" (aS qz) (aM qz) (aq qz) .none kV6 dc6 pm6 an6 Ub ct6),sl6⟩)(c6:codeIn K Ub "common_part" = true)(k6:keepIn K (.ref f6)=true)(a7:nsIn K mainGlobals "fraction" = some (some (.ref f7)))(l7:K.lookup f7=some ⟨oc7,od7,.func (fnOf "fraction" "fraction" (aS jw) (aM jw) (aq jw) (.ref Af) Hj Hk Hl Hi Ae Hm),sl7⟩)(d7:K.lookup Af=some ⟨do7,dd7,.seq #[.int 1 Uc] dn7,ds7⟩)(c7:codeIn K Ae "fraction" = true)(k7:keepIn K (.ref f7)=true)(a8:nsIn K mainGlobals "plus" = some (some (.ref f8)))(l8:K.lookup f8=some ⟨oc8,od8,.func (fnOf "plus" "plus" (aS so) (aM so) (aq so) .none kV8 dc8 pm8 an8 Ud ct8),sl8⟩)(c8:codeIn K Ud "plus" = true)(k8:keepIn K (.ref f8)=true)(a9:nsIn K mainGlobals "minus" = some (some (.ref f9)))(l9:K.lookup f9=some ⟨oc9,od9,.func (fnOf "minus" "minus" (aS rT) (aM rT) (aq rT) .none kV9 dc9 pm9 an9 Ue ct9),sl9⟩)(c9:codeIn K Ue "minus" = true)(k9:keepIn K (.ref f9)=true)(pN:nsIn K mainGlobals "times" = some (some (.ref Hn)))(l10:K.lookup Hn=some ⟨ada,ac7,.func (fnOf "times" "times" (aS rV) (aM rV) (aq rV) .none adb ade adf ac8 Rj adg),ac9⟩)(Il:codeIn K Rj "times" = true)(Ag:keepIn K (.ref Hn)=true)(Im:nsIn K mainGlobals "over" = some (some (.ref Ho)))(Io:K.lookup Ho=some ⟨adk,adh,.func (fnOf "over" "over" (aS su) (aM su) (aq su) .none adl adn ado adi Rk adp),adj⟩)(Ip:codeIn K Rk "over" = true)(Ah:keepIn K (.ref Ho)=true)(Iq:nsIn K mainGlobals "under" = some (some (.ref Hq)))(Ir:K.lookup Hq=some ⟨adu,adq,.func (fnOf "under" "under" (aS rR) (aM rR) (aq rR) .none adv adw adx ads Rl ady),adt⟩)(Iu:codeIn K Rl "under" = true)(Ai:keepIn K (.ref Hq)=true)(Iv:nsIn K mainGlobals "sum_of" = some (some (.ref Hr)))(Iw:K.lookup Hr=some ⟨adC,adz,.func (fnOf "sum_of" "sum_of" (aS rG) (aM rG) (aq rG) .none adD adE adF adA Rm adG),adB⟩)(Iy:codeIn K Rm "sum_of" = true)(Aj:keepIn K (.ref Hr)=true)(Iz:nsIn K mainGlobals "common_bottom" = some (some (.ref Hs)))(IA:K.lookup Hs=some ⟨adK,adH,.func (fnOf "common_bottom" "common_bottom" (aS qj) (aM qj) (aq qj) .none adL adM adN adI Ro adO),adJ⟩)(IB:codeIn K Ro "common_bottom" = true)(Ak:keepIn K (.ref Hs)=true)(IC:nsIn K mainGlobals "least_of" = some (some (.ref Ht)))(IE:K.lookup Ht=some ⟨adS,adP,.func (fnOf "least_of" "least_of" (aS qZ) (aM qZ) (aq qZ) .none adT adU adV adQ Rp adW),adR⟩)(IG:codeIn K Rp "least_of" = true)(Al:keepIn K (.ref Ht)=true)(IH:nsIn K mainGlobals "bottom_of_all" = some (some (.ref Hu)))(II:K.lookup Hu=some ⟨ad0,adX,.func (fnOf "bottom_of_all" "bottom_of_all" (aS qk) (aM qk) (aq qk) .none ad1 ad2 ad3 adY Rr ad4),adZ⟩)(c16:codeIn K Rr "bottom_of_all" = true)(Am:keepIn K (.ref Hu)=true)(IJ:nsIn K mainGlobals "parts_of" = some (some (.ref Hw)))(IK:K.lookup Hw=some ⟨ad8,ad5,.func (fnOf "parts_of" "parts_of" (aS rj) (aM rj) (aq rj) .none ad9 aea aeb ad6 Rt aec),ad7⟩)(IL:codeIn K Rt "parts_of" = true)(An:keepIn K (.ref Hw)=true)(IM:nsIn K mainGlobals "check_orders" = some (some (.ref Hx)))(IP:K.lookup Hx=some ⟨aeg,aed,.func (fnOf "check_orders" "check_orders" (aS qm) (aM qm) (aq qm) .none aeh aei aej aee Ru aek),aef⟩)(IQ:codeIn K Ru "check_orders" = true)(Ao:keepIn K (.ref Hx)=true)(IT:nsIn K mainGlobals "table_of" = some (some (.ref Hy)))(IU:K.lookup Hy=some ⟨aeo,ael,.func (fnOf "table_of" "table_of" (aS qX) (aM qX) (aq qX) .none aep aeq aer aem Rv aes),aen⟩)(IV:codeIn K Rv "table_of" = true)(Ap:keepIn K (.ref Hy)=true)(IW:nsIn K mainGlobals "full_order" = some (some (.ref Hz)))(IX:K.lookup Hz=some ⟨aew,aet,.func (fnOf "full_order" "full_order" (aS qI) (aM qI) (aq qI) .none aex aey aez aeu Rw aeA),aev⟩)(IY:codeIn K Rw "full_order" = true)(Aq:keepIn K (.ref Hz)=true)(IZ:nsIn K mainGlobals "first_left" = some (some (.ref HA)))(I0:K.lookup HA=some ⟨aeE,aeB,.func (fnOf "first_left" "first_left" (aS qJ) (aM qJ) (aq qJ) .none aeF aeG aeH aeC Rx aeI),aeD⟩)(Ja:codeIn K Rx "first_left" = true)(Ar:keepIn K (.ref HA)=true)(Jb:nsIn K mainGlobals "dealt_of" = some (some (.ref HB)))(Jc:K.lookup HB=some ⟨aeM,aeJ,.func (fnOf "dealt_of" "dealt_of" (aS qY) (aM qY) (aq qY) .none aeN aeO aeP aeK Ry aeQ),aeL⟩)(Jd:codeIn K Ry "dealt_of" = true)(As:keepIn K (.ref HB)=true)(Je:nsIn K mainGlobals "is_row" = some (some (.ref HC)))(Jf:K.lookup HC=some ⟨aeU,aeR,.func (fnOf "is_row" "is_row" (aS rH) (aM rH) (aq rH) .none aeV aeW aeX aeS Rz aeY),aeT⟩)(Jg:codeIn K Rz "is_row" = true)(Au:keepIn K (.ref HC)=true)(Jh:nsIn K mainGlobals "are_shares" = some (some (.ref HD)))(Ji:K.lookup HD=some ⟨ae2,aeZ,.func (fnOf "are_shares" "are_shares" (aS qK) (aM qK) (aq qK) .none ae3 ae4 ae5 ae0 RA ae6),ae1⟩)(Jj:codeIn K RA "are_shares" = true)(Av:keepIn K (.ref HD)=true)(Jk:nsIn K mainGlobals "weight_of" = some (some (.ref HE)))(Jl:K.lookup HE=some ⟨afa,ae7,.func (fnOf "weight_of" "weight_of" (aS qS) (aM qS) (aq qS) .none afb afc afd ae8 RB afe),ae9⟩)(Jm:codeIn K RB "weight_of" = true)(Aw:keepIn K (.ref HE)=true)(Jn:nsIn K mainGlobals "shares_of" = some (some (.ref HF)))(Jo:K.lookup HF=some ⟨afi,aff,.func (fnOf "shares_of" "shares_of" (aS qT) (aM qT) (aq qT) .none afj afk afl afg RC afm),afh⟩)(Jp:codeIn K RC "shares_of" = true)(Ax:keepIn K (.ref HF)=true)(Jq:nsIn K mainGlobals "spare_parts" = some (some (.ref HG)))(Jr:K.lookup HG=some ⟨afq,afn,.func (fnOf "spare_parts" "spare_parts" (aS qD) (aM qD) (aq qD) .none afr afs aft afo RD afu),afp⟩)(Js:codeIn K RD "spare_parts" = true)(Ay:keepIn K (.ref HG)=true)(Jt:nsIn K mainGlobals "next_deal" = some (some (.ref HH)))(Ju:K.lookup HH=some ⟨afy,afv,.func (fnOf "next_deal" "next_deal" (aS qU) (aM qU) (aq qU) .none afz afA afB afw RE afC),afx⟩)(Jv:codeIn K RE "next_deal" = true)(Az:keepIn K (.ref HH)=true)(Jw:nsIn K mainGlobals "most_weight" = some (some (.ref HI)))(Jx:K.lookup HI=some ⟨afG,afD,.func (fnOf "most_weight" "most_weight" (aS qE) (aM qE) (aq qE) .none afH afI afJ afE RF afK),afF⟩)(Jy:codeIn K RF "most_weight" = true)(AA:keepIn K (.ref HI)=true)(Jz:nsIn K mainGlobals "left_after" = some (some (.ref HJ)))(JA:K.lookup HJ=some ⟨afO,afL,.func (fnOf "left_after" "left_after" (aS qM) (aM qM) (aq qM) .none afP afQ afR afM RG afS),afN⟩)(JB:codeIn K RG "left_after" = true)(AB:keepIn K (.ref HJ)=true)(JC:nsIn K mainGlobals "mix_of" = some (some (.ref HK)))(JD:K.lookup HK=some ⟨afW,afT,.func (fnOf "mix_of" "mix_of" (aS rK) (aM rK) (aq rK) .none afX afY afZ afU RH af0),afV⟩)(JE:codeIn K RH "mix_of" = true)(AD:keepIn K (.ref HK)=true)(JF:nsIn K mainGlobals "next_length" = some (some (.ref HL)))(JG:K.lookup HL=some ⟨af4,af1,.func (fnOf "next_length" "next_length" (aS qB) (aM qB) (aq qB) .none af5 af6 af7 af2 RJ af8),af3⟩)(JH:codeIn K RJ "next_length" = true)(AF:keepIn K (.ref HL)=true)(JI:nsIn K mainGlobals "left_behind" = some (some (.ref HM)))(JK:K.lookup HM=some ⟨agc,af9,.func (fnOf "left_behind" "left_behind" (aS qC) (aM qC) (aq qC) .none agd age agf aga RK agg),agb⟩)(JL:codeIn K RK "left_behind" = true)(AG:keepIn K (.ref HM)=true)(JM:nsIn K mainGlobals "ended_things" = some (some (.ref HN)))(JN:K.lookup HN=some ⟨agk,agh,.func (fnOf "ended_things" "ended_things" (aS qo) (aM qo) (aq qo) .none agl agm agn agi RL ago),agj⟩)(JO:codeIn K RL "ended_things" = true)(AH:keepIn K (.ref HN)=true)(JP:nsIn K mainGlobals "meal_steps" = some (some (.ref HP)))(JQ:K.lookup HP=some ⟨ags,agp,.func (fnOf "meal_steps" "meal_steps" (aS qL) (aM qL) (aq qL) .none agt agu agv agq RM agw),agr⟩)(JR:codeIn K RM "meal_steps" = true)(AI:keepIn K (.ref HP)=true)(JS:nsIn K mainGlobals "eaten_by" = some (some (.ref HQ)))(JT:K.lookup HQ=some ⟨agA,agx,.func (fnOf "eaten_by" "eaten_by" (aS rh) (aM rh) (aq rh) .none agB agC agD agy RN agE),agz⟩)(JU:codeIn K RN "eaten_by" = true)(AJ:keepIn K (.ref HQ)=true)(JV:nsIn K mainGlobals "meal" = some (some (.ref HR)))(JW:K.lookup HR=some ⟨agI,agF,.func (fnOf "meal" "meal" (aS sv) (aM sv) (aq sv) .none agJ agK agL agG RO agM),agH⟩)(JX:codeIn K RO "meal" = true)(AK:keepIn K (.ref HR)=true)(JY:nsIn K mainGlobals "tickets" = some (some (.ref HS)))(JZ:K.lookup HS=some ⟨agQ,agN,.func (fnOf "tickets" "tickets" (aS rA) (aM rA) (aq rA) .none agR agS agT agO RP agU),agP⟩)(J0:codeIn K RP "tickets" = true)(AO:keepIn K (.ref HS)=true)(J1:nsIn K mainGlobals "deal_at" = some (some (.ref HU)))(J2:K.lookup HU=some ⟨agY,agV,.func (fnOf "deal_at" "deal_at" (aS rB) (aM rB) (aq rB) .none agZ ag0 ag1 agW RQ ag2),agX⟩)(J4:codeIn K RQ "deal_at" = true)(AQ:keepIn K (.ref HU)=true)(J5:nsIn K mainGlobals "deal_by" = some (some (.ref HV)))(J6:K.lookup HV=some ⟨ag6,ag3,.func (fnOf "deal_by" "deal_by" (aS rp) (aM rp) (aq rp) .none ag7 ag8 ag9 ag4 RR aha),ag5⟩)(J7:codeIn K RR "deal_by" = true)(AR:keepIn K (.ref HV)=true)(J8:nsIn K mainGlobals "longer" = some (some (.ref HW)))(J9:K.lookup HW=some ⟨ahe,ahb,.func (fnOf "longer" "longer" (aS rF) (aM rF) (aq rF) .none ahf ahg ahh ahc RT ahi),ahd⟩)(Ka:codeIn K RT "longer" = true)(AU:keepIn K (.ref HW)=true)(Kb:nsIn K mainGlobals "all_turns" = some (some (.ref HX)))(Kc:K.lookup HX=some ⟨ahm,ahj,.func (fnOf "all_turns" "all_turns" (aS qR) (aM qR) (aq qR) .none ahn aho ahp ahk RU ahq),ahl⟩)(Ke:codeIn K RU "all_turns" = true)(AV:keepIn K (.ref HX)=true)(Kf:nsIn K mainGlobals "turn_mix" = some (some (.ref HY)))(Kg:K.lookup HY=some ⟨ahu,ahr,.func (fnOf "turn_mix" "turn_mix" (aS cM) (aM cM) (aq cM) .none ahv ahw ahx ahs RV ahy),aht⟩)(Kh:codeIn K RV "turn_mix" = true)(AW:keepIn K (.ref HY)=true)(Ki:nsIn K mainGlobals "turn_shares" = some (some (.ref HZ)))(Kj:K.lookup HZ=some ⟨ahC,ahz,.func (fnOf "turn_shares" "turn_shares" (aS qA) (aM qA) (aq qA) .none ahD ahE ahF ahA RW ahG),ahB⟩)(Kk:codeIn K RW "turn_shares" = true)(AX:keepIn K (.ref HZ)=true)(Kl:nsIn K mainGlobals "_law_cell_at" = some (some (.ref Ia)))(Km:K.lookup Ia=some ⟨ahK,ahH,.func (fnOf "_law_cell_at" "_law_cell_at" (aS qu) (aM qu) (aq qu) .none ahL ahM ahN ahI RX ahO),ahJ⟩)(Ko:codeIn K RX "_law_cell_at" = true)(AY:keepIn K (.ref Ia)=true)(Kq:nsIn K mainGlobals "_law_divisor" = some (some (.ref Ib)))(Kr:K.lookup Ib=some ⟨ahS,ahP,.func (fnOf "_law_divisor" "_law_divisor" (aS qv) (aM qv) (aq qv) .none ahT ahU ahV ahQ RY ahW),ahR⟩)(Ks:codeIn K RY "_law_divisor" = true)(AZ:keepIn K (.ref Ib)=true)(Kt:nsIn K mainGlobals "_law_order" = some (some (.ref Ic)))(Ku:K.lookup Ic=some ⟨ah0,ahX,.func (fnOf "_law_order" "_law_order" (aS qO) (aM qO) (aq qO) .none ah1 ah2 ah3 ahY RZ ah4),ahZ⟩)(Kw:codeIn K RZ "_law_order" = true)(A1:keepIn K (.ref Ic)=true)(Kx:nsIn K mainGlobals "_law_table" = some (some (.ref Ie)))(Ky:K.lookup Ie=some ⟨ah8,ah5,.func (fnOf "_law_table" "_law_table" (aS qP) (aM qP) (aq qP) .none ah9 aia aib ah6 R3 aic),ah7⟩)(Kz:codeIn K R3 "_law_table" = true)(A2:keepIn K (.ref Ie)=true)(KA:nsIn K mainGlobals "_law_whole" = some (some (.ref Ig)))(KC:K.lookup Ig=some ⟨aih,aid,.func (fnOf "_law_whole" "_law_whole" (aS qN) (aM qN) (aq qN) .none aii aij aik aie R4 ail),aif⟩)(KD:codeIn K R4 "_law_whole" = true)(A3:keepIn K (.ref Ig)=true)(KG:nsIn K mainGlobals "_law_is_weight" = some (some (.ref Ih)))(KH:K.lookup Ih=some ⟨aip,aim,.func (fnOf "_law_is_weight" "_law_is_weight" (aS qh) (aM qh) (aq qh) .none aiq air ais ain R5 ait),aio⟩)(KI:codeIn K R5 "_law_is_weight" = true)(A4:keepIn K (.ref Ih)=true)(KJ:nsIn K mainGlobals "_law_is_mix" = some (some (.ref Ii)))(KL:K.lookup Ii=some ⟨aix,aiu,.func (fnOf "_law_is_mix" "_law_is_mix" (aS qG) (aM qG) (aq qG) .none aiy aiz aiA aiv R6 aiB),aiw⟩)(KN:codeIn K R6 "_law_is_mix" = true)(A5:keepIn K (.ref Ii)=true)(KO:nsIn K mainGlobals "_law_tickets_told" = some (some (.ref Ij)))(KP:K.lookup Ij=some ⟨aiF,aiC,.func (fnOf "_law_tickets_told" "_law_tickets_told" (aS qf) (aM qf) (aq qf) .none aiG aiH aiI aiD R7 aiJ),aiE⟩)(KQ:codeIn K R7 "_law_tickets_told" = true)(A7:keepIn K (.ref Ij)=true)(KR:nsIn K mainGlobals "law" = some (some (.ref Ik)))(KS:K.lookup Ik=some ⟨aiM,aiK,.func (fnOf "law" "law" (aS hG) (aM hG) (aq hG) .none R9 Sa Sb R8 Fw Sd),aiL⟩)(KU:codeIn K Fw "law" = true)(KW:keepIn K (.ref Ik)=true)(Bl:nsIn K mainGlobals "isinstance" = some none)(Ey:nsIn K mainGlobals "int" = some none)(DY:nsIn K mainGlobals "bool" = some none)(DZ:nsIn K mainGlobals "list" = some none)(Dd:nsIn K mainGlobals "tuple" = some none)(Ez:nsIn K mainGlobals "len" = some none)(De:nsIn K mainGlobals "range" = some none)(EA:nsIn K mainGlobals "zip" = some none)(Bo:nsIn K mainGlobals "enumerate" = some none)(CH:nsIn K mainGlobals "sorted" = some none)(EB:nsIn K mainGlobals "abs" = some none)(EC:nsIn K mainGlobals "sum" = some none)(ED:nsIn K mainGlobals "max" = some none)(EE:nsIn K mainGlobals "min" = some none)(EF:nsIn K mainGlobals "all" = some none)(EG:nsIn K mainGlobals "any" = some none)(EH:nsIn K mainGlobals "set" = some none)(BA:nsIn K mainGlobals "reversed" = some none)(tV:nsIn K mainGlobals "MOST_TURNS" = some (some (.int 5 gt1)))(sk:nsIn K mainGlobals "MOST" = some (some (.int 6 gt2)))(tW:nsIn K mainGlobals "MOST_COUNT" = some (some (.int 9 gt3)))
  : ∃ fd:FuncData,(∀ (s:Shared) (v:Value),BindsTo s fd ⟨[v],[]⟩ [("_law_script",v)])/\∀ base:Heap,K.In base->base.Ns mainGlobals mg->aJ l.prog w K mg base ak 13 fa fd ["_law_script"] (yx K):=by
 have e:=hfa.symm.trans (mg_of X G KR);cases e;have T:Txt mg:=⟨NO X G Bl,NO X G Ey,NO X G DY,NO X G DZ,NO X G Dd,NO X G Ez,NO X G De,NO X G EA,NO X G Bo,NO X G CH,NO X G EB,NO X G EC,NO X G ED,NO X G EE,NO X G EF,NO X G EG,NO X G EH,NO X G BA,⟨_,mg_of X G tV⟩,⟨_,mg_of X G sk⟩,⟨_,mg_of X G tW⟩⟩
 have F1:=bz (st:=kD) l1 c1 k1;have b1:=F1.binds (ps:=["counts", "may", "deal", "asker", "seen"]) fun _ _ _ _ _ _ us hl=>by
  obtain⟨_,_,_,_,_,rfl⟩:=T5 hl
  rfl
 have F2:=bz (st:=kF) l2 c2 k2;have b2:=F2.binds (ps:=["may", "must", "deal", "thing", "seen"]) fun _ _ _ _ _ _ us hl=>by
  obtain⟨_,_,_,_,_,rfl⟩:=T5 hl
  rfl
 have F3:=bz (st:=jO) l3 c3 k3;have b3:=F3.binds (ps:=["counts", "may", "must"]) fun _ _ _ _ _ _ us hl=>by
  obtain⟨_,_,_,rfl⟩:=lF hl
  rfl
 have F4:=bz (st:=rq) l4 c4 k4;have b4:=F4.binds (ps:=["counts", "may", "must"]) fun _ _ _ _ _ _ us hl=>by
  obtain⟨_,_,_,rfl⟩:=lF hl
  rfl
 have F5:=bz (st:=qW) l5 c5 k5;have b5:=F5.binds (ps:=["number"]) fun _ _ _ _ _ _ us hl=>by
  obtain⟨_,rfl⟩:=iS hl
  rfl
 have F6:=bz (st:=qz) l6 c6 k6;have b6:=F6.binds (ps:=["one", "other"]) fun _ _ _ _ _ _ us hl=>by
  obtain⟨_,_,rfl⟩:=dG hl
  rfl
 have F7:=Zr (st:=jw) l7 c7 k7;have b7:Binds K _ ["top", "bottom"] []:=fun s us hK hl=>match us,hl with | [u,v],_=>PySem.W.binds_K (fd:=fnOf "fraction" "fraction" (aS jw) (aM jw) (aq jw) (.ref Af) Hj Hk Hl Hi Ae Hm) hK rfl d7 rfl rfl rfl
 have n8:Binds K _ ["top", "bottom"] [.int 1 Uc]:=fun s us hK hl=>by
  cases us with
  |nil=>exact absurd hl (by simp)
  |cons u0 r0 =>
   cases r0 with
   |nil=>exact PySem.W.binds_K (fd:=fnOf "fraction" "fraction" (aS jw) (aM jw) (aq jw) (.ref Af) Hj Hk Hl Hi Ae Hm) hK rfl d7 rfl rfl rfl
   |cons _ _=>exact absurd hl (by simp only[qr,AN,ajj];omega)
 have F8:=bz (st:=so) l8 c8 k8;have b8:=F8.binds (ps:=["one", "other"]) fun _ _ _ _ _ _ us hl=>by
  obtain⟨_,_,rfl⟩:=dG hl
  rfl
 have F9:=bz (st:=rT) l9 c9 k9;have b9:=F9.binds (ps:=["one", "other"]) fun _ _ _ _ _ _ us hl=>by
  obtain⟨_,_,rfl⟩:=dG hl
  rfl
 have Ug:=bz (st:=rV) l10 Il Ag;have b10:=Ug.binds (ps:=["one", "other"]) fun _ _ _ _ _ _ us hl=>by
  obtain⟨_,_,rfl⟩:=dG hl
  rfl
 have Uh:=bz (st:=su) Io Ip Ah;have b11:=Uh.binds (ps:=["one", "other"]) fun _ _ _ _ _ _ us hl=>by
  obtain⟨_,_,rfl⟩:=dG hl
  rfl
 have Ui:=bz (st:=rR) Ir Iu Ai;have b12:=Ui.binds (ps:=["one", "other"]) fun _ _ _ _ _ _ us hl=>by
  obtain⟨_,_,rfl⟩:=dG hl
  rfl
 have Uj:=bz (st:=rG) Iw Iy Aj;have b13:=Uj.binds (ps:=["some"]) fun _ _ _ _ _ _ us hl=>by
  obtain⟨_,rfl⟩:=iS hl
  rfl
 have Uk:=bz (st:=qj) IA IB Ak;have b14:=Uk.binds (ps:=["some"]) fun _ _ _ _ _ _ us hl=>by
  obtain⟨_,rfl⟩:=iS hl
  rfl
 have Ul:=bz (st:=qZ) IE IG Al;have b15:=Ul.binds (ps:=["some"]) fun _ _ _ _ _ _ us hl=>by
  obtain⟨_,rfl⟩:=iS hl
  rfl
 have Um:=bz (st:=qk) II c16 Am;have b16:=Um.binds (ps:=["rows"]) fun _ _ _ _ _ _ us hl=>by
  obtain⟨_,rfl⟩:=iS hl
  rfl
 have Uo:=bz (st:=rj) IK IL An;have b17:=Uo.binds (ps:=["one", "bottom"]) fun _ _ _ _ _ _ us hl=>by
  obtain⟨_,_,rfl⟩:=dG hl
  rfl
 have Up:=bz (st:=qm) IP IQ Ao;have b18:=Up.binds (ps:=["orders", "many"]) fun _ _ _ _ _ _ us hl=>by
  obtain⟨_,_,rfl⟩:=dG hl
  rfl
 have Uq:=bz (st:=qX) IU IV Ap;have b19:=Uq.binds (ps:=["counts", "orders"]) fun _ _ _ _ _ _ us hl=>by
  obtain⟨_,_,rfl⟩:=dG hl
  rfl
 have Ur:=bz (st:=qI) IX IY Aq;have b20:=Ur.binds (ps:=["table", "asker"]) fun _ _ _ _ _ _ us hl=>by
  obtain⟨_,_,rfl⟩:=dG hl
  rfl
 have Us:=bz (st:=qJ) I0 Ja Ar;have b21:=Us.binds (ps:=["order", "gone"]) fun _ _ _ _ _ _ us hl=>by
  obtain⟨_,_,rfl⟩:=dG hl
  rfl
 have Ut:=bz (st:=qY) Jc Jd As;have b22:=Ut.binds (ps:=["shares", "one"]) fun _ _ _ _ _ _ us hl=>by
  obtain⟨_,_,rfl⟩:=dG hl
  rfl
 have Uu:=bz (st:=rH) Jf Jg Au;have b23:=Uu.binds (ps:=["row", "many"]) fun _ _ _ _ _ _ us hl=>by
  obtain⟨_,_,rfl⟩:=dG hl
  rfl
 have Uv:=bz (st:=qK) Ji Jj Av;have b24:=Uv.binds (ps:=["counts", "shares"]) fun _ _ _ _ _ _ us hl=>by
  obtain⟨_,_,rfl⟩:=dG hl
  rfl
 have Uw:=bz (st:=qS) Jl Jm Aw;have b25:=Uw.binds (ps:=["mix", "asker", "one"]) fun _ _ _ _ _ _ us hl=>by
  obtain⟨_,_,_,rfl⟩:=lF hl
  rfl
 have Ux:=bz (st:=qT) Jo Jp Ax;have b26:=Ux.binds (ps:=["counts", "mix"]) fun _ _ _ _ _ _ us hl=>by
  obtain⟨_,_,rfl⟩:=dG hl
  rfl
 have Uy:=bz (st:=qD) Jr Js Ay;have b27:=Uy.binds (ps:=["counts", "left"]) fun _ _ _ _ _ _ us hl=>by
  obtain⟨_,_,rfl⟩:=dG hl
  rfl
 have Uz:=bz (st:=qU) Ju Jv Az;have b28:=Uz.binds (ps:=["counts", "left"]) fun _ _ _ _ _ _ us hl=>by
  obtain⟨_,_,rfl⟩:=dG hl
  rfl
 have UA:=bz (st:=qE) Jx Jy AA;have b29:=UA.binds (ps:=["counts", "left", "deal"]) fun _ _ _ _ _ _ us hl=>by
  obtain⟨_,_,_,rfl⟩:=lF hl
  rfl
 have UB:=bz (st:=qM) JA JB AB;have b30:=UB.binds (ps:=["left", "deal", "weight"]) fun _ _ _ _ _ _ us hl=>by
  obtain⟨_,_,_,rfl⟩:=lF hl
  rfl
 have UC:=bz (st:=rK) JD JE AD;have b31:=UC.binds (ps:=["counts", "shares"]) fun _ _ _ _ _ _ us hl=>by
  obtain⟨_,_,rfl⟩:=dG hl
  rfl
 have UD:=bz (st:=qB) JG JH AF;have b32:=UD.binds (ps:=["left", "eaten", "time_left"]) fun _ _ _ _ _ _ us hl=>by
  obtain⟨_,_,_,rfl⟩:=lF hl
  rfl
 have UE:=bz (st:=qC) JK JL AG;have b33:=UE.binds (ps:=["left", "eaten", "length"]) fun _ _ _ _ _ _ us hl=>by
  obtain⟨_,_,_,rfl⟩:=lF hl
  rfl
 have UG:=bz (st:=qo) JN JO AH;have b34:=UG.binds (ps:=["left"]) fun _ _ _ _ _ _ us hl=>by
  obtain⟨_,rfl⟩:=iS hl
  rfl
 have UH:=bz (st:=qL) JQ JR AI;have b35:=UH.binds (ps:=["table"]) fun _ _ _ _ _ _ us hl=>by
  obtain⟨_,rfl⟩:=iS hl
  rfl
 have UI:=bz (st:=rh) JT JU AJ;have b36:=UI.binds (ps:=["steps", "asker", "one"]) fun _ _ _ _ _ _ us hl=>by
  obtain⟨_,_,_,rfl⟩:=lF hl
  rfl
 have UJ:=bz (st:=sv) JW JX AK;have b37:=UJ.binds (ps:=["table"]) fun _ _ _ _ _ _ us hl=>by
  obtain⟨_,rfl⟩:=iS hl
  rfl
 have UK:=bz (st:=rA) JZ J0 AO;have b38:=UK.binds (ps:=["mix"]) fun _ _ _ _ _ _ us hl=>by
  obtain⟨_,rfl⟩:=iS hl
  rfl
 have UL:=bz (st:=rB) J2 J4 AQ;have b39:=UL.binds (ps:=["mix", "number"]) fun _ _ _ _ _ _ us hl=>by
  obtain⟨_,_,rfl⟩:=dG hl
  rfl
 have UM:=bz (st:=rp) J6 J7 AR;have b40:=UM.binds (ps:=["table", "turns"]) fun _ _ _ _ _ _ us hl=>by
  obtain⟨_,_,rfl⟩:=dG hl
  rfl
 have UN:=bz (st:=rF) J9 Ka AU;have b41:=UN.binds (ps:=["lists", "many"]) fun _ _ _ _ _ _ us hl=>by
  obtain⟨_,_,rfl⟩:=dG hl
  rfl
 have UO:=bz (st:=qR) Kc Ke AV;have b42:=UO.binds (ps:=["many"]) fun _ _ _ _ _ _ us hl=>by
  obtain⟨_,rfl⟩:=iS hl
  rfl
 have UP:=bz (st:=cM) Kg Kh AW;have b43:=UP.binds (ps:=["table"]) fun _ _ _ _ _ _ us hl=>by
  obtain⟨_,rfl⟩:=iS hl
  rfl
 have UQ:=bz (st:=qA) Kj Kk AX;have b44:=UQ.binds (ps:=["table"]) fun _ _ _ _ _ _ us hl=>by
  obtain⟨_,rfl⟩:=iS hl
  rfl
 have UR:=bz (st:=qu) Km Ko AY;have b45:=UR.binds (ps:=["_law_script", "_law_k"]) fun _ _ _ _ _ _ us hl=>by
  obtain⟨_,_,rfl⟩:=dG hl
  rfl
 have UT:=bz (st:=qv) Kr Ks AZ;have b46:=UT.binds (ps:=["_law_one", "_law_other"]) fun _ _ _ _ _ _ us hl=>by
  obtain⟨_,_,rfl⟩:=dG hl
  rfl
 have UU:=bz (st:=qO) Ku Kw A1;have b47:=UU.binds (ps:=["_law_cell", "_law_many"]) fun _ _ _ _ _ _ us hl=>by
  obtain⟨_,_,rfl⟩:=dG hl
  rfl
 have UW:=bz (st:=qP) Ky Kz A2;have b48:=UW.binds (ps:=["_law_script", "_law_start"]) fun _ _ _ _ _ _ us hl=>by
  obtain⟨_,_,rfl⟩:=dG hl
  rfl
 have UX:=bz (st:=qN) KC KD A3;have b49:=UX.binds (ps:=["_law_found"]) fun _ _ _ _ _ _ us hl=>by
  obtain⟨_,rfl⟩:=iS hl
  rfl
 have UY:=bz (st:=qh) KH KI A4;have b50:=UY.binds (ps:=["_law_one"]) fun _ _ _ _ _ _ us hl=>by
  obtain⟨_,rfl⟩:=iS hl
  rfl
 have UZ:=bz (st:=qG) KL KN A5;have b51:=UZ.binds (ps:=["_law_mix", "_law_counts", "_law_shares"]) fun _ _ _ _ _ _ us hl=>by
  obtain⟨_,_,_,rfl⟩:=lF hl
  rfl
 have U0:=bz (st:=qf) KP KQ A7;have b52:=U0.binds (ps:=["_law_mix", "_law_counts", "_law_shares"]) fun _ _ _ _ _ _ us hl=>by
  obtain⟨_,_,_,rfl⟩:=lF hl
  rfl
 have F53:=bz (st:=hG) KS KU KW;refine⟨fnOf "law" "law" (aS hG) (aM hG) (aq hG) .none R9 Sa Sb R8 Fw Sd,fun s v=>.of_eq rfl,fun base _ _=>?_⟩;have K1:=bA base l w X G (VV (k:=0) F1 T (fun sp j ok=>Kn.mk (base:=base) (P:=l.prog) (w:=w) ok (mg_of X G a1) k1 b1) ) a1 k1 b1;have K2:=bA base l w X G (WT (k:=0) F2 T (fun sp j ok=>Kn.mk (base:=base) (P:=l.prog) (w:=w) ok (mg_of X G a2) k2 b2) ) a2 k2 b2;have K3:=bA base l w X G (VW (k:=0) F3 T K1 K2) a3 k3 b3;have K4:=bA base l w X G (Xb (k:=0) F4 T K3) a4 k4 b4;have K5:=bA base l w X G (Ww (k:=0) F5 T ) a5 k5 b5;have K6:=bA base l w X G (Vs (k:=0) F6 T ) a6 k6 b6;have K7:=bA base l w X G (Wx (k:=0) F7 T K5 K6) a7 k7 b7;have K8:=bA base l w X G (ZS (k:=0) F8 T K7) a8 k8 b8;have K9:=bA base l w X G (YX (k:=0) F9 T K7) a9 k9 b9;have K10:=bA base l w X G (YZ (k:=0) Ug T K7) pN Ag b10;have K11:=bA base l w X G (Z1 (k:=0) Uh T K7) Im Ah b11;have KY:=bA base l w X G (YS (k:=0) Ui T ) Iq Ai b12;have A8:=bA base l w X G (XY (k:=0) Uj T K7 n8 K8) Iv Aj b13;have U1:=bA base l w X G (Vf (k:=0) Uk T K6) Iz Ak b14;have U2:=bA base l w X G (WO (k:=0) Ul T KY) IC Al b15;have K16:=bA base l w X G (Vh (k:=0) Um T U1) IH Am b16;have U3:=bA base l w X G (WV (k:=0) Uo T ) IJ An b17;have K18:=bA base l w X G (Vl (k:=0) Up T ) IM Ao b18;have K19:=bA base l w X G (Wz (k:=0) Uq T K18) IT Ap b19;have U4:=bA base l w X G (VL (k:=0) Ur T ) IW Aq b20;have U5:=bA base l w X G (VN (k:=0) Us T ) IZ Ar b21;have K22:=bA base l w X G (WK (k:=0) Ut T A8) Jb As b22;have K23:=bA base l w X G (X0 (k:=0) Uu T K7 n8 KY A8) Je Au b23;have K24:=bA base l w X G (VQ (k:=0) Uv T K23 KY K7 n8 K22) Jh Av b24;have K25:=bA base l w X G (Wf (k:=0) Uw T A8) Jk Aw b25;have U6:=bA base l w X G (Wg (k:=0) Ux T K25) Jn Ax b26;have U7:=bA base l w X G (Vz (k:=0) Uy T ) Jq Ay b27;have K28:=bA base l w X G (Wk (k:=0) Uz T U7 K4) Jt Az b28;have K29:=bA base l w X G (VA (k:=0) UA T K7 n8 U7 U2) Jw AA b29;have K30:=bA base l w X G (VX (k:=0) UB T ) Jz AB b30;have K31:=bA base l w X G (X2 (k:=0) UC T K24 K16 U3 K28 K29 K30 K7) JC AD b31;have K32:=bA base l w X G (Vw (k:=0) UD T K7 n8 K11 U2) JF AF b32;have K33:=bA base l w X G (Vy (k:=0) UE T K7 n8 K9 K10) JI AG b33;have K34:=bA base l w X G (Vn (k:=0) UG T K7 n8) JM AH b34;have K35:=bA base l w X G (VR (k:=0) UH T K7 n8 K9 U4 U5 K32 K33 K34) JP AI b35;have K36:=bA base l w X G (WR (k:=0) UI T A8) JS AJ b36;have K37:=bA base l w X G (Z6 (k:=0) UJ T K35 K36) JV AK b37;have U8:=bA base l w X G (Xd (k:=0) UK T U1) JY AO b38;have K39:=bA base l w X G (Xe (k:=0) UL T U8 U3) J1 AQ b39;have K40:=bA base l w X G (W5 (k:=0) UM T U4 U5) J5 AR b40;have K41:=bA base l w X G (XT (k:=0) UN T ) J8 AU b41;have K42:=bA base l w X G (Wc (k:=0) UO T K41) Kb AV b42;have K43:=bA base l w X G (WD (k:=0) UP T K42 K40 K7) Kf AW b43;have K44:=bA base l w X G (Vv (k:=0) UQ T U6 K43) Ki AX b44;have U9:=bA base l w X G (Vq (k:=0) UR T ) Kl AY b45;have Va:=bA base l w X G (Vr (k:=0) UT T ) Kq AZ b46;have K47:=bA base l w X G (V1 (k:=0) UU T ) Kt A1 b47;have K48:=bA base l w X G (V2 (k:=0) UW T U9 K47) Kx A2 b48;have KZ:=bA base l w X G (V0 (k:=0) UX T ) KA A3 b49;have K50:=bA base l w X G (Ve (k:=0) UY T KZ Va) KG A4 b50;have K51:=bA base l w X G (VB (k:=0) UZ T K50 KZ) KJ A5 b51;have K52:=bA base l w X G (Vb (k:=0) U0 T Va U8 KZ K39) KO A7 b52;exact aaQ (abN (k:=0) F53 T K48 K19 K37 U9 K44 K31 K51 K52 U6)
theorem walk {l:PySem.W.OpenLaw}{q:Program}{loose:List Str}{XP:(Str->Option Value)->Heap->Prop}{YP:World->Heap->Prop}{d:DefRec}{K:Params->Frag}(hn:l.most=some 63)(vF:d.params.defaults=[])(hY:∀ (w:World) (h:Heap),YP w h->(K w.params).In h)(F:∀ (w:World) (mg:Str->Option Value) (fa:Addr) (h:Heap),(K w.params).In h->h.Ns mainGlobals mg->mg d.name=some (.ref fa) ->
   ∃ fd:FuncData,(∀ (s:Shared) (u:Value),BindsTo s fd ⟨[u],[]⟩ [("_law_script",u)])/\∀ base:Heap,(K w.params).In base->base.Ns mainGlobals mg->aJ l.prog w (K w.params) mg base ak 13 fa fd ["_law_script"] (yx (K w.params))) :
  PySem.W.WalkO q loose XP YP l.row.toRowW d [] (fun f vs=>PySem.call f vs) :=
 L2.Zm (n:=63) (k:=13) (x := "_law_script") (CX:=fun _=>ak) (sp:=fun w=>yx (K w.params)) hn (by decide) vF ⟨rfl,by decide,by decide⟩ hY F (fun _ _ a ns hl _ hS=>⟨a,ns,rfl,hS,hl,fun _=>rfl⟩) fun _ _ _ _ _ z=>z
end bH
open PySem PySem.W PyProof.Rows
set_option maxRecDepth 100000 in
set_option maxHeartbeats 0 in
theorem PySem.Challenge.cw_lotmeal_k92_whole_from_shares_to_tickets_holds : PySem.Challenge.rw_lotmeal_k92_whole_from_shares_to_tickets.Holds := by
 w_on;o_law
 refine holds_open (q:=iM.hV) (loose:=["fraction"]) (Xt:=iM.hX) (XP:=XL iM.hV []) (Yf:=(kHook iM.hK iM.hA iM.yt).obs) (Ya:=(kHook iM.hK iM.hA iM.yt).val) (YP:=(kHook iM.hK iM.hA iM.yt).says) iM.hL (Hook.of _) (Hook.keeps _) (fun s e=>xl_of s (Bool.and_eq_true_iff.mp e).1) XL.keeps (by rfl) (by rfl) (by rfl) (fun s e=>recFacts_of (Bool.and_eq_true_iff.mp e).2) (by rfl) (by first | assumption | decide +kernel) (by decide +kernel) ⟨rfl,rfl,rfl,rfl,rfl,by decide +kernel⟩ ?hw ?hc
 case hw=>w_witness2
 k_fill
 refine bH.walk (l:=PySem.Challenge.rw_lotmeal_k92_whole_from_shares_to_tickets) rfl rfl (fun w h Y=>PySem.W.kIn_of Y) ?F
 case F =>
  intro w mg fa h KX G vG;refine' bH.all_mk KX G vG ?a1 ?l1 ?c1 ?k1 ?a2 ?l2 ?c2 ?k2 ?a3 ?l3 ?c3 ?k3 ?a4 ?l4 ?c4 ?k4 ?a5 ?l5 ?c5 ?k5 ?a6 ?l6 ?c6 ?k6 ?a7 ?l7 ?d7 ?c7 ?k7 ?a8 ?l8 ?c8 ?k8 ?a9 ?l9 ?c9 ?k9 ?pN ?l10 ?Il ?Ag ?Im ?Io ?Ip ?Ah ?Iq ?Ir ?Iu ?Ai ?Iv ?Iw ?Iy ?Aj ?Iz ?IA ?IB ?Ak ?IC ?IE ?IG ?Al ?IH ?II ?c16 ?Am ?IJ ?IK ?IL ?An ?IM ?IP ?IQ ?Ao ?IT ?IU ?IV ?Ap ?IW ?IX ?IY ?Aq ?IZ ?I0 ?Ja ?Ar ?Jb ?Jc ?Jd ?As ?Je ?Jf ?Jg ?Au ?Jh ?Ji ?Jj ?Av ?Jk ?Jl ?Jm ?Aw ?Jn ?Jo ?Jp ?Ax ?Jq ?Jr ?Js ?Ay ?Jt ?Ju ?Jv ?Az ?Jw ?Jx ?Jy ?AA ?Jz ?JA ?JB ?AB ?JC ?JD ?JE ?AD ?JF ?JG ?JH ?AF ?JI ?JK ?JL ?AG ?JM ?JN ?JO ?AH ?JP ?JQ ?JR ?AI ?JS ?JT ?JU ?AJ ?JV ?JW ?JX ?AK ?JY ?JZ ?J0 ?AO ?J1 ?J2 ?J4 ?AQ ?J5 ?J6 ?J7 ?AR ?J8 ?J9 ?Ka ?AU ?Kb ?Kc ?Ke ?AV ?Kf ?Kg ?Kh ?AW ?Ki ?Kj ?Kk ?AX ?Kl ?Km ?Ko ?AY ?Kq ?Kr ?Ks ?AZ ?Kt ?Ku ?Kw ?A1 ?Kx ?Ky ?Kz ?A2 ?KA ?KC ?KD ?A3 ?KG ?KH ?KI ?A4 ?KJ ?KL ?KN ?A5 ?KO ?KP ?KQ ?A7 ?KR ?KS ?KU ?KW ?Bl ?Ey ?DY ?DZ ?Dd ?Ez ?De ?EA ?Bo ?CH ?EB ?EC ?ED ?EE ?EF ?EG ?EH ?BA ?tV ?sk ?tW
  (case a1=>k_is)
  (case l1=>k_is)
  (case c1=>k_is)
  (case k1=>k_is)
  (case a2=>k_is)
  (case l2=>k_is)
  (case c2=>k_is)
  (case k2=>k_is)
  (case a3=>k_is)
  (case l3=>k_is)
  (case c3=>k_is)
  (case k3=>k_is)
  (case a4=>k_is)
  (case l4=>k_is)
  (case c4=>k_is)
  (case k4=>k_is)
  (case a5=>k_is)
  (case l5=>k_is)
  (case c5=>k_is)
  (case k5=>k_is)
  (case a6=>k_is)
  (case l6=>k_is)
  (case c6=>k_is)
  (case k6=>k_is)
  (case a7=>k_is)
  (case l7=>k_is)
  (case d7=>k_is)
  (case c7=>k_is)
  (case k7=>k_is)
  (case a8=>k_is)
  (case l8=>k_is)
  (case c8=>k_is)
  (case k8=>k_is)
  (case a9=>k_is)
  (case l9=>k_is)
  (case c9=>k_is)
  (case k9=>k_is)
  (case pN=>k_is)
  (case l10=>k_is)
  (case Il=>k_is)
  (case Ag=>k_is)
  (case Im=>k_is)
  (case Io=>k_is)
  (case Ip=>k_is)
  (case Ah=>k_is)
  (case Iq=>k_is)
  (case Ir=>k_is)
  (case Iu=>k_is)
  (case Ai=>k_is)
  (case Iv=>k_is)
  (case Iw=>k_is)
  (case Iy=>k_is)
  (case Aj=>k_is)
  (case Iz=>k_is)
  (case IA=>k_is)
  (case IB=>k_is)
  (case Ak=>k_is)
  (case IC=>k_is)
  (case IE=>k_is)
  (case IG=>k_is)
  (case Al=>k_is)
  (case IH=>k_is)
  (case II=>k_is)
  (case c16=>k_is)
  (case Am=>k_is)
  (case IJ=>k_is)
  (case IK=>k_is)
  (case IL=>k_is)
  (case An=>k_is)
  (case IM=>k_is)
  (case IP=>k_is)
  (case IQ=>k_is)
  (case Ao=>k_is)
  (case IT=>k_is)
  (case IU=>k_is)
  (case IV=>k_is)
  (case Ap=>k_is)
  (case IW=>k_is)
  (case IX=>k_is)
  (case IY=>k_is)
  (case Aq=>k_is)
  (case IZ=>k_is)
  (case I0=>k_is)
  (case Ja=>k_is)
  (case Ar=>k_is)
  (case Jb=>k_is)
  (case Jc=>k_is)
  (case Jd=>k_is)
  (case As=>k_is)
  (case Je=>k_is)
  (case Jf=>k_is)
  (case Jg=>k_is)
  (case Au=>k_is)
  (case Jh=>k_is)
  (case Ji=>k_is)
  (case Jj=>k_is)
  (case Av=>k_is)
  (case Jk=>k_is)
  (case Jl=>k_is)
  (case Jm=>k_is)
  (case Aw=>k_is)
  (case Jn=>k_is)
  (case Jo=>k_is)
  (case Jp=>k_is)
  (case Ax=>k_is)
  (case Jq=>k_is)
  (case Jr=>k_is)
  (case Js=>k_is)
  (case Ay=>k_is)
  (case Jt=>k_is)
  (case Ju=>k_is)
  (case Jv=>k_is)
  (case Az=>k_is)
  (case Jw=>k_is)
  (case Jx=>k_is)
  (case Jy=>k_is)
  (case AA=>k_is)
  (case Jz=>k_is)
  (case JA=>k_is)
  (case JB=>k_is)
  (case AB=>k_is)
  (case JC=>k_is)
  (case JD=>k_is)
  (case JE=>k_is)
  (case AD=>k_is)
  (case JF=>k_is)
  (case JG=>k_is)
  (case JH=>k_is)
  (case AF=>k_is)
  (case JI=>k_is)
  (case JK=>k_is)
  (case JL=>k_is)
  (case AG=>k_is)
  (case JM=>k_is)
  (case JN=>k_is)
  (case JO=>k_is)
  (case AH=>k_is)
  (case JP=>k_is)
  (case JQ=>k_is)
  (case JR=>k_is)
  (case AI=>k_is)
  (case JS=>k_is)
  (case JT=>k_is)
  (case JU=>k_is)
  (case AJ=>k_is)
  (case JV=>k_is)
  (case JW=>k_is)
  (case JX=>k_is)
  (case AK=>k_is)
  (case JY=>k_is)
  (case JZ=>k_is)
  (case J0=>k_is)
  (case AO=>k_is)
  (case J1=>k_is)
  (case J2=>k_is)
  (case J4=>k_is)
  (case AQ=>k_is)
  (case J5=>k_is)
  (case J6=>k_is)
  (case J7=>k_is)
  (case AR=>k_is)
  (case J8=>k_is)
  (case J9=>k_is)
  (case Ka=>k_is)
  (case AU=>k_is)
  (case Kb=>k_is)
  (case Kc=>k_is)
  (case Ke=>k_is)
  (case AV=>k_is)
  (case Kf=>k_is)
  (case Kg=>k_is)
  (case Kh=>k_is)
  (case AW=>k_is)
  (case Ki=>k_is)
  (case Kj=>k_is)
  (case Kk=>k_is)
  (case AX=>k_is)
  (case Kl=>k_is)
  (case Km=>k_is)
  (case Ko=>k_is)
  (case AY=>k_is)
  (case Kq=>k_is)
  (case Kr=>k_is)
  (case Ks=>k_is)
  (case AZ=>k_is)
  (case Kt=>k_is)
  (case Ku=>k_is)
  (case Kw=>k_is)
  (case A1=>k_is)
  (case Kx=>k_is)
  (case Ky=>k_is)
  (case Kz=>k_is)
  (case A2=>k_is)
  (case KA=>k_is)
  (case KC=>k_is)
  (case KD=>k_is)
  (case A3=>k_is)
  (case KG=>k_is)
  (case KH=>k_is)
  (case KI=>k_is)
  (case A4=>k_is)
  (case KJ=>k_is)
  (case KL=>k_is)
  (case KN=>k_is)
  (case A5=>k_is)
  (case KO=>k_is)
  (case KP=>k_is)
  (case KQ=>k_is)
  (case A7=>k_is)
  (case KR=>k_is)
  (case KS=>k_is)
  (case KU=>k_is)
  (case KW=>k_is)
  (case Bl=>k_is)
  (case Ey=>k_is)
  (case DY=>k_is)
  (case DZ=>k_is)
  (case Dd=>k_is)
  (case Ez=>k_is)
  (case De=>k_is)
  (case EA=>k_is)
  (case Bo=>k_is)
  (case CH=>k_is)
  (case EB=>k_is)
  (case EC=>k_is)
  (case ED=>k_is)
  (case EE=>k_is)
  (case EF=>k_is)
  (case EG=>k_is)
  (case EH=>k_is)
  (case BA=>k_is)
  (case tV=>k_is)
  (case sk=>k_is)
  (case tW=>k_is)
#print axioms PySem.Challenge.cw_lotmeal_k92_whole_from_shares_to_tickets_holds
