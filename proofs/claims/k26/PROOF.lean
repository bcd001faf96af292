import PyProof.Rows.All
import Lean
import PyProof.EqAt
import PyProof.EqKinds
import PyProof.TupleCall
import PyProof.NeKinds
import PyProof.ZipIter
import PyProof.WalksEnum
import PyProof.CompUse
import PyProof.ListRange
import PyProof.Rows.SetFrom
import PyProof.Rows.SortWalk
import PyProof.Rows.SeqMore2
import PyProof.SetRoads
import KE.KRevIter
import PyProof.WalksMore
import PyProof.AutoRange
import PyProof.ListNew
import PyProof.Wp
import PyProof.Logic
import PyProof.StationsW
import PyProof.ExcClass2
import OpenK.KGet
import PyProof.Rows.SortRunsK
import PyProof.Rows.SortShellK
import KE.KDictSum
import PyProof.DictTruth
import PyProof.RangeIter
import PyProof.RaisesMany
import PyProof.AutoListH
import PyProof.Draws
import PySem.Challenge.RW_lotmeal_k26_bettered_again
import KE.KIsAll
import KE.KTurns
import KE.KItem
import KE.LcSums
import KE.IntBitsLaws
set_option Elab.async false
set_option compiler.extract_closed false
open Lean in
local macro_rules(kind:=Lean.Parser.Command.declaration)|x=>if["def","abbrev"].contains x[1][0].getAtomVal&&x[0][4].isNone then pure<|x.modifyArg 0 (·.setArg 4 (mkNullNode #[mkNode `Lean.Parser.Command.noncomputable #[mkAtom ""]])) else Macro.throwUnsupported
set_option linter.all false
set_option maxRecDepth 100000
set_option maxHeartbeats 4000000
set_option maxHeartbeats 0 in
theorem wSd0 : PySem.Challenge.rw_lotmeal_k26_bettered_again.wellSaid = true := by kernel_rfl
local macro_rules|`(tactic|obtain $p:rcasesPatMed:_:=$e)=>`(tactic|(refine Classical.byContradiction fun hn=>?_;obtain $p:rcasesPatMed:=$e<;>(refine hn ?_;clear hn)))
local macro_rules|`(term|'O')=>`(term|by lia)|`(term|'Q')=>`(term|by decide)|`(term|'Z')=>`(term|by omega)|`(term|'J')=>`(term|by simp_all)|`(term|'X')=>`(term|by rfl)|`(term|'Y')=>`(term|by simp)|`(term|'W')=>`(term|by decide +kernel)|`(term|'H')=>`(term|(λ_ _ h=>by repeat first|exact h.1▸rfl|obtain⟨_,h⟩:=h))
local macro_rules|`(tactic|ac_rfl)=>`(tactic|(with_reducible conv=>arg 5;whnf))
local macro_rules|`(tactic|nofun)=>`(tactic|(try dsimp -zeta only))
abbrev vn:=PySem.Value
abbrev adV:=PySem.Addr
abbrev adX:=PySem.Shared
abbrev agc:=PySem.Program
abbrev agd:=PySem.World
abbrev age:=PySem.Stmt
def aa:=@List.length_map
def ab:=@List.getElem?_eq_getElem
def ar:=@PySem.wpAny_bind
def ba:=@List.mem_of_getElem?
def br:=@Nat.le_refl
def ff:=@List.mem_cons
def gz:=@List.getElem?_eq_some_iff
def ir:=@List.getD_eq_getElem?_getD
def i4:=@List.map_map
def i8:=@List.mem_map
def l7:=@List.mem_append_right
def l8:=@List.getElem?_map
def l9:=@List.mem_range
def mf:=@PySem.Heap.get?_push_of_some
def nt:=@PySem.Heap.lt_size
def qr:=@List.mem_append
def rf:=@if_neg
def ue:=@PyProof.Rows.wpS_bind
def uu:=@if_pos
def vc:=@List.length_range
def wb:=@List.getElem?_append_right
def xw:=@List.length_append
def xy:=@List.mem_append_left
def zd:=@Nat.lt_of_lt_of_le
def ze:=@List.nodup_append
def zw:=@PyProof.Rows.wpS_pure
def AE:=@List.nodup_cons
def AL:=@Bool.false_ne_true
def AM:=@Nat.zero_le
def AN:=@Nat.ne_of_lt
def AS:=@List.append_nil
def BB:=@List.mem_singleton
def BN:=@List.map_append
def BS:=@PySem.Heap.get?_push_size
def BY:=@Int.toNat_natCast
def B0:=@List.mem_filter
def Cc:=@beq_iff_eq
def Cf:=@List.getElem?_append_left
def Cn:=@List.size_toArray
def Co:=@PyProof.Rows.KeyOrd.kle_trans
def Cs:=@Nat.le_trans
def CS:=@List.append_assoc
def DD:=@Array.getElem?_toList
def DO:=@List.getElem_of_mem
def EM:=@Nat.lt_or_ge
def EN:=@List.mem_of_mem_take
def EO:=@decide_eq_true
def ES:=@Classical.byContradiction
def ET:=@List.take_append_drop
def EU:=@List.getElem?_set_ne
def FF:=@Option.some.inj
def GG:=@PySem.F.plainAttrs_list
def GS:=@of_decide_eq_true
def ID:=@List.length_cons
def IF:=@List.getElem?_range
def IS:=@Array.toList_append
def JJ:=@List.map_cons
def Lm:=@List.length_take
def Lo:=@Bool.and_eq_true
def LB:=@PyProof.Rows.KeyOrd.kle_of_klt
def LF:=@decide_eq_false
def LG:=@List.lookup_cons
def LH:=@PyProof.Rows.callWith_type1
def LM:=@decide_eq_true_eq
def LP:=@Nat.lt_of_le_of_lt
def LS:=@Int.emod_lt_of_pos
def Mc:=@List.getElem?_eq_none
def Me:=@Int.mul_le_mul_of_nonneg_right
def MW:=@List.contains_iff_mem
def Na:=@List.mem_cons_of_mem
def Nd:=@List.sum_cons
def Nl:=@List.idxOf_lt_length_iff
def NG:=@PySem.Heap.get?_update_self
def NH:=@List.Perm.append_left
def NJ:=@PyProof.Rows.wpS_forRange
def NL:=@PyProof.Rows.KeyOrd.kle_refl
def NO:=@Array.length_toList
def Of:=@List.getElem?_toArray
def OE:=@List.ext_getElem?
def OF:=@List.pairwise_map
def OK:=@PySem.wpAny_setState_of
def ON:=@PySem.Heap.get?_update_other
def OP:=@List.pairwise_iff_getElem
def OR:=@Int.ediv_mul_cancel
def Pc:=@PySem.Heap.SameBut.update
def Pd:=@List.getElem?_zipWith
def Pe:=@Array.toList_push
def Pf:=@Int.le_of_lt
def Po:=@PySem.wpAny_holding
def PM:=@List.length_set
def RI:=@PySem.wpAny_ite_split
def Sk:=@Int.emod_nonneg
def Sm:=@PySem.wpAny_call_entry
def SI:=@List.Perm.append_right
def SO:=@PySem.wpAny_newObj_type
def TM:=@Array.getElem?_eq_getElem
def US:=@List.mem_or_eq_of_mem_set
def VT:=@Nat.not_lt_zero
def WA:=@List.length_filter_le
def WE:=@Nat.zero_add
def WI:=@List.mem_iff_getElem?
def WJ:=@List.length_singleton
def WS:=@List.mem_cons_self
def YA:=@PySem.F.slot_list_append
def YE:=@PySem.F.type_list_append
def YI:=@List.getElem?_of_mem
def YO:=@PySem.wpAny_truthy_bool
def YU:=@PySem.Heap.get?_push_ne
def Zl:=@Nat.le_of_lt_succ
def Zp:=@Int.mul_lt_mul_of_pos_right
def Zs:=@List.reverse_append
def aaa:=@Option.map_eq_some_iff
def aab:=@List.getElem?_set_self
def aat:=@List.perm_ext_iff_of_nodup
def aba:=@List.filter_cons
def abc:=@PyProof.Rows.wpS_modify
def adm:=@List.perm_append_comm
def adv:=@Nat.le_of_ble_eq_true
def adY:=@Int.natAbs_dvd_natAbs
def adZ:=@PyProof.Rows.wpS_mono
def ad0:=@PySem.Obj.data_mapFields
def ad1:=@Int.mul_nonneg
def ad2:=@List.mem_of_mem_drop
def ad3:=@PySem.wpAny_rule
def ad4:=@PySem.wpAny_passesOwn
def ad5:=@Int.zero_add
def ad6:=@List.filterMap_cons
def ad7:=@Ne.symm
def ad8:=@Nat.le_succ
def ad9:=@PySem.mem_of_lookup
def aea:=@List.filter_eq_self
def aeb:=@PySem.wpAny_callSpecial?_slot
def aec:=@List.length_drop
def aed:=@Nat.le_add_right
def aee:=@List.all_eq_true
def aef:=@List.take_length
def aeg:=@List.getElem_mem
def aeh:=@List.nodup_range
def aei:=@List.drop_eq_nil_of_le
def aej:=@List.filter_append
def aek:=@List.getElem?_drop
def ael:=@Nat.ne_of_gt
def aem:=@Nat.succ_pos
def aen:=@PySem.F.called_set
def aeo:=@List.sum_append
def aep:=@Nat.lt_irrefl
def aeq:=@List.take_sublist
def aer:=@Nat.lt_succ_of_lt
def aes:=@Nat.le_of_succ_le
def aet:=@Int.gcd_dvd_right
def aeu:=@Array.getElem?_eq_some_iff
def aev:=@Array.perm_iff_toList_perm
def aew:=@Array.toList_reverse
def aex:=@Int.natAbs_mul
def aey:=@List.mem_take_iff_getElem
def aez:=@Int.gcd_dvd_left
def aeA:=@PySem.wpAny_askSetting
def aeB:=@List.mem_flatMap
def aeC:=@List.take_append
def aeD:=@PySem.wpAny_of_eq
def aeE:=@Int.mul_add
def aeF:=@Nat.le_of_lt
def aeG:=@Option.isSome_iff_exists
def aeH:=@Nat.sub_self
def aeI:=@PySem.wpAny_Call_Name_kw
def aeJ:=@List.foldl_cons
def aeK:=@PySem.pushCells_keeps
def aeL:=@PySem.PassesOwn.never
def aeM:=@PySem.plainId_quiet
def aeN:=@PySem.codeAny_builtin
def aeO:=@PySem.wpAny_specialOf
def aeP:=@PyProof.Rows.F.plain_set_update_loop
def aeQ:=@List.Perm.of_eq
def aeR:=@decide_eq_false_iff_not
def aeS:=@List.take_succ_eq_append_getElem
def aeT:=@List.range_succ_eq_map
def aeU:=@List.pairwise_lt_range
def aeV:=@List.getElem_take
def aeW:=@Nat.mod_lt
def aeX:=@List.map_id
def aeY:=@List.reverse_cons
def aeZ:=@Int.le_refl
def ae0:=@Bool.not_eq_true'
def ae1:=@PySem.Heap.size_push
def ae2:=@Bool.and_false
def ae3:=@Int.dvd_natAbs
def ae4:=@List.take_zero
def ae5:=@PySem.wpAny_fieldsOf
def ae6:=@PySem.codeAny_mono
def ae7:=@Nat.lt_succ_self
def ae8:=@PySem.W.kia_one
def ae9:=@Nat.succ_le_succ
def afa:=@PySem.wpAny_isInstance
def afb:=@PySem.Heap.size_update
def afc:=@List.getElem_map
def afd:=@List.take_append_of_le_length
def afe:=@Nat.pow_le_pow_right
def aff:=@Array.toArray_toList
def afg:=@List.pairwise_append
def afh:=@List.Pairwise.of_map
def afi:=@PySem.F.slot_list_reversed
def afj:=@Bool.or_eq_false_iff
def afk:=@Int.le_of_dvd
def afl:=@PySem.wpAny_attempt
def afm:=@Array.getElem?_setIfInBounds
def afn:=@PySem.wpAny_mono
def afo:=@PySem.call_meets
def afp:=@PySem.wpAny_execs_nil
def afq:=@PySem.W.plainGet_of
def afr:=@beq_eq_false_iff_ne
def afs:=@List.filter_map
def aft:=@Array.getD_eq_getD_getElem?
def afu:=@PySem.wpAny_setEntries_of
def afv:=@List.length_pos_iff
def afw:=@List.mem_filterMap
def afx:=@PySem.W.callWith_K
def afy:=@List.set_set
def afz:=@Int.lt_or_le
def afA:=@Bool.false_eq_true
def afB:=@Nat.add_sub_cancel
def afC:=@Array.size_extract
def afD:=@PyProof.Rows.pairsOf_size
def afE:=@Nat.add_right_comm
def afF:=@of_decide_eq_false
def afG:=@List.sum_singleton
def afH:=@List.contains_cons
def afI:=@Int.mul_neg_of_neg_of_pos
def afJ:=@List.extract_eq_take_drop
def afK:=@PyProof.Rows.wpS_get
def afL:=@PySem.wpAny_seqItems
def afM:=@List.getElem?_eq_none_iff
def afN:=@PySem.F.plain_extend_loop
def afO:=@PySem.wpAny_pyIter_list
def afP:=@PySem.W.kitx_list
def afQ:=@List.getElem?_set
def afR:=@bne_self_eq_false
def afS:=@PySem.wpAny_pyIter_slot
def afT:=@List.drop_sublist
def afU:=@List.filter_congr
def afV:=@PySem.wpAny_standAt
def afW:=@PySem.sizeLine_eq
def afX:=@List.all_cons
def afY:=@PySem.signature?_of
def afZ:=@PyProof.Rows.wpS_lift
def af0:=@List.map_drop
def af1:=@Int.ediv_le_self
def af2:=@List.not_mem_nil
def af3:=@decide_eq_decide
def af4:=@Bool.eq_iff_iff
def af5:=@Nat.le_of_eq
def af6:=@List.of_mem_zip
def af7:=@Bool.or_eq_true
def af8:=@Nat.min_self
def af9:=@Int.le_antisymm
def aga:=@Nat.min_eq_left
def agb:=@Int.le_trans
open PySem.W (Frag codeIn emptyDict findIn fnOf hasDictIn instObj isFn keepIn kia_one lookIn mg_of nsIn plainGet)
abbrev LI:=List Int
abbrev LL:=List LI
theorem cw : 1000<PySem.sizeLine:='Q'
namespace L2
open PySem PySem.W
section
def vA (tb:String->Option Builtin)(p:agc)(w:agd)(gZ:Nat)(ann:Option vn):Nat->SharedT->Thread->Option SharedT
 |0,_,_=>none
 |n+1,s,t=>match through t with
  |true=>some s
  |false=>match stepOk gZ ann t with
   |false=>none
   |true=>match stepT (denote tb) p w s t with
    |some (s',t')=>vA tb p w gZ ann n s' t'
    |none=>none
theorem KG:∀{n:Nat} {s s':SharedT} {t:Thread},vA tb p w gZ ann n s t=some s'->topRun tb p w gZ ann n s.abs t=some s'.abs
 |0,_,_,_,h=>by cases h
 |n+1,s,s',t,h=>by
  unfold vA at h;unfold topRun;cases ht:through t with
  |true=>rw[ht]at h;cases h;rfl
  |false=>
   rw[ht]at h;cases hk:stepOk gZ ann t with
   |false=>rw[hk]at h;cases h
   |true=>
    rw[hk]at h;cases hs:stepT (denote tb) p w s t with
    |none=>rw[hs]at h;cases h
    |some r=>obtain⟨pW,adP⟩:=r;rw[hs]at h;rw[stepT_spec hs];exact KG h
end
def treeOf (l:List Obj):Nat->Nat->Nat->BT
 |0,_,_=>.nil
 |f+1,a,b=>match l[b]? with
  |some o=>.node o (treeOf l f (2*a) (a+b)) (treeOf l f (2*a) (2*a+b))
  |none=>.nil
theorem WG {Yf:adX->α}{Ya:agd->α}{ng:Params->BT}(abT:∀w,(fencedOpening treeTable p w N).map (λs=>(s.heap,s.gens,s.drawn,s.toks))=some (absHeap (ng w.params) gZ life,EG,PQ,PR))(size:∀w:agd,((absHeap (ng w.params) gZ life).isNs mainGlobals&&EG.size==0,(absHeap (ng w.params) gZ life).nsMap mainGlobals "__annotations__")=(true,ann))(run:∀w,(λos=>(vA treeTable p w gZ ann M ⟨ng w.params,gZ,life,EG,PQ,PR,os⟩ (topStub p)).map λst=>((staticsOk (importedModules p.main.body) (absHeap (ng w.params) gZ life) st.abs.heap&&namesBound p st.abs.heap&&gensDone st.abs&&laidKept (absHeap (ng w.params) gZ life) st.abs.heap),openSeen q loose (importedModules p.main.body) Xt g0 st.abs,Yf st.abs))=λ_=>some (true,openGood q loose,Ya w))(le:Nat.ble M N=true):LeftO p q loose Xt Yf Ya N g0:=λw=>by
 obtain⟨⟨h,gs,d,k,os⟩,e,e'⟩:_:=aaa.mp (abT w);obtain⟨rfl,rfl,rfl,rfl⟩:h=absHeap (ng w.params) gZ life/\gs=EG/\d=PQ/\k=PR:='J'
 obtain⟨z1,z3⟩:=Prod.mk.inj (size w);obtain⟨st,hr,hl⟩:=aaa.mp (congrFun (run w) os);obtain⟨l1,hl⟩:=Prod.mk.inj hl;obtain⟨l2,l3⟩:=Prod.mk.inj hl;have r:=topRun_mono (N-M) _ _ _ _ (KG hr);rw[show M+(N-M)=N by simp_all]at r;have t:topFrom treeTable p w N ⟨absHeap (ng w.params) gZ life,gs,d,k,os⟩=some st.abs:=by
  unfold topFrom;rw[z1,absHeap_size,z3];have r':topRun treeTable p w gZ ann N ⟨absHeap (ng w.params) gZ life,gs,d,k,os⟩ (topStub p)=some st.abs:=r
  simp_all
 unfold openEnds
 simp_all
noncomputable def sN (P:Params):BT:=treeOf (boot_heap P).objs.toList 12 1 0
theorem boot_abs (P:Params):absHeap (sN P) 11 {}=boot_heap P:=by kernel_rfl
theorem WH (w:agd):((absHeap (sN w.params) 11 {}).isNs mainGlobals&&(Array.mk []:Array GenState).size==0,(absHeap (sN w.params) 11 {}).nsMap mainGlobals "__annotations__")=(true,some (.ref 6)):=by kernel_rfl
noncomputable def nW (p:agc) (w:agd) (N:Nat) (os:OsState):Option SharedT:=vA treeTable p w 11 (some (.ref 6)) N ⟨sN w.params,11,{},Array.mk [],boot_drawn,boot_toks,os⟩ (topStub p)
noncomputable def DI (p:agc) (w:agd) (st:SharedT):Bool:=staticsOk (importedModules p.main.body) (absHeap (sN w.params) 11 {}) st.abs.heap&&namesBound p st.abs.heap&&gensDone st.abs&&laidKept (absHeap (sN w.params) 11 {}) st.abs.heap
theorem WK {Yf:adX->α}{Ya:agd->α}{N:Nat}(e:opening p=plainProg p.main.scope.names)(hN:Nat.ble 600 N=true)(f:∀s,fenceModules? p s=some s)(r1:∀w,(λos=>(nW p w N os).map λst=>DI p w st)=λ_=>some true)(r2:∀w,(λos=>(nW p w N os).map λst=>openSeen q loose (importedModules p.main.body) Xt g0 st.abs)=λ_=>some (openGood q loose))(r3:∀w,(λos=>(nW p w N os).map λst=>Yf st.abs)=λ_=>some (Ya w)):LeftO p q loose Xt Yf Ya N g0:=
 WG (λw=>(boot_open e hN f w).trans rfl) WH (λw=>funext λos=>by
  have a:=congrFun (r1 w) os;have b:=congrFun (r2 w) os;have c:=congrFun (r3 w) os;show(nW p w N os).map (λst=>(DI p w st,openSeen q loose (importedModules p.main.body) Xt g0 st.abs,Yf st.abs))=_;cases h:nW p w N os with
  |none=>rw[h]at a;cases a
  |some st=>
   simp_all) 'J'
def QK (s:age):Arguments:=match s with
 | .FunctionDef _ a _ _ _ _ _ _ _ _=>a
 |_=>{posonlyargs:=[],args:=[],vararg:=none,kwonlyargs:=[],kw_defaults:=[],kwarg:=none,defaults:=[]}
def QL (s:age):List age:=match s with
 | .FunctionDef _ _ b _ _ _ _ _ _ _=>b
 |_=>[]
def QM (s:age):Scope:=match s with
 | .FunctionDef _ _ _ _ _ _ sc _ _ _=>sc
 |_=>{kind:=.function,names:=[],isGenerator:=false,isCoroutine:=false}
def kG (s:age)(j:Nat):age:=match s with
 | .ClassDef _ _ _ b _ _ _ _ _ _ _=>b.getD j (.Pass ⟨0,0,0,0⟩)
 |_=>.Pass ⟨0,0,0,0⟩
def ax (P:Params)(x:Str)(n:Nat)(v:vn):DictEntry:=.mk (PyData.keyHash P x) (.str x n) v
def aB:Obj:=Obj.mk (.type "tuple") none (.seq #[] 0) #[]
def oE (x:Array vn):Obj:=Obj.mk (.type "tuple") none (.seq x 0) #[]
def QN (x:Array vn):Obj:=Obj.mk (.type "code") none (.fields x) #[]
def bI (n:Str)(a l k r x:Nat)(y z:vn)(v u:Nat):Obj:=QN #[.str n a,.str n (a+1),.str "/claim/cut.py" (a+2),.int l 0,.int k 0,.int 0 0,.int 0 0,.int 3 0,.ref r,.bool true,.int 181 0,.ref x,.none,y,z,.ref v,.int u 0,.int l 0,.str "/claim/cut.py" (u+1)]
def bJ (n:Str)(s:age)(d m c:vn):Obj:=Obj.mk (.type "function") none (.func (FuncData.mk n n (QK s) (.stmts (QL s)) (QM s) 3 [] d .none .none m none c .none 0)) #[]
def QO:Nat->List Str->List vn
 |_,[] => []
 |a,x::l=>.str x a::QO (a+1) l
def cF (a:Nat)(l:List Str):Obj:=oE (QO a l).toArray
def kH (n q:Str)(a l k r x:Nat)(y z:vn)(v u:Nat):Obj:=QN #[.str n a,.str q (a+1),.str "/claim/cut.py" (a+2),.int l 0,.int k 0,.int 0 0,.int 0 0,.int 3 0,.ref r,.bool true,.int 181 0,.ref x,.none,y,z,.ref v,.int u 0,.int l 0,.str "/claim/cut.py" (u+1)]
def kI (n q:Str)(s:age)(d m c:vn):Obj:=Obj.mk (.type "function") none (.func (FuncData.mk n q (QK s) (.stmts (QL s)) (QM s) 3 [] d .none .none m none c .none 0)) #[]
end L2
namespace iY
open PySem PySem.W L2
abbrev pr:agc:=PySem.Challenge.rw_lotmeal_k26_bettered_again.row.prog
def tp (i:Nat):age:=pr.main.body.getD i (.Pass ⟨0,0,0,0⟩)
def m0:vn:=.str "lotmeal.errors" 187
def m1:vn:=.str "lotmeal.fractions" 305
def m2:vn:=.str "lotmeal.tables" 373
def m3:vn:=.str "lotmeal.judged" 409
def m4:vn:=.str "lotmeal.better" 447
def m5:vn:=.str "law_lotmeal_k26_bettered_again" 545
noncomputable def hK:Params->Frag:=λP=>
 (nat_lit 2,boot_o_2 P)::
 (nat_lit 3,(Obj.mk (.type "dict") none (.dict #[(ax P "__name__" 165 (.str "law_lotmeal_k26_bettered_again" 545)),(ax P "__doc__" 166 .none),(ax P "__package__" 167 .none),(ax P "__loader__" 168 (.builtin "__main__.__loader__#opaque")),(ax P "__spec__" 169 .none),(ax P "__annotations__" 170 (.ref 6)),(ax P "__builtins__" 171 (.ref 4)),(ax P "__file__" 173 (.str "/claim/cut.py" 172)),(ax P "__cached__" 174 .none),(ax P "LotError" 206 (.ref 24)),(ax P "NoNumber" 222 (.ref 37)),(ax P "TooGreat" 238 (.ref 49)),(ax P "NoAsker" 254 (.ref 61)),(ax P "NoThing" 279 (.ref 80)),(ax P "Twice" 304 (.ref 99)),(ax P "is_whole" 313 (.ref 108)),(ax P "common_part" 322 (.ref 115)),(ax P "fraction" 332 (.ref 123)),(ax P "plus" 340 (.ref 130)),(ax P "sum_of" 349 (.ref 137)),(ax P "common_bottom" 358 (.ref 144)),(ax P "bottom_of_all" 364 (.ref 149)),(ax P "parts_of" 372 (.ref 156)),(ax P "MOST" 376 (.int 6 375)),(ax P "MOST_COUNT" 378 (.int 9 377)),(ax P "check_orders" 384 (.ref 161)),(ax P "table_of" 390 (.ref 166)),(ax P "full_order" 396 (.ref 171)),(ax P "first_left" 402 (.ref 176)),(ax P "dealt_of" 408 (.ref 181)),(ax P "wishes" 416 (.ref 186)),(ax P "over_pairs" 422 (.ref 191)),(ax P "full_things" 428 (.ref 196)),(ax P "lined_up" 434 (.ref 201)),(ax P "ring_among" 440 (.ref 206)),(ax P "judged" 446 (.ref 211)),(ax P "Market" 538 (.ref 272)),(ax P "bettered" 544 (.ref 281)),(ax P "_law_cell_at" 554 (.ref 288)),(ax P "_law_stream" 565 (.ref 295)),(ax P "_law_order" 577 (.ref 302)),(ax P "_law_orders" 587 (.ref 309)),(ax P "_law_counts" 597 (.ref 316)),(ax P "_law_divisor" 605 (.ref 323)),(ax P "_law_lowest" 614 (.ref 330)),(ax P "_law_turn_deal" 620 (.ref 335)),(ax P "_law_any_deal" 626 (.ref 340)),(ax P "_law_drawn" 632 (.ref 345)),(ax P "_law_full" 638 (.ref 350)),(ax P "_law_plus" 646 (.ref 357)),(ax P "_law_under" 654 (.ref 364)),(ax P "_law_sums" 666 (.ref 371)),(ax P "_law_no_less" 676 (.ref 378)),(ax P "_law_tabled" 682 (.ref 383)),(ax P "_law_whole" 689 (.ref 390)),(ax P "_law_is_row" 698 (.ref 397)),(ax P "_law_column" 708 (.ref 404)),(ax P "_law_are_shares" 719 (.ref 411)),(ax P "_law_wishes" 725 (.ref 416)),(ax P "_law_left" 738 (.ref 423)),(ax P "_law_good" 752 (.ref 430)),(ax P "_law_better" 764 (.ref 437)),(ax P "law" 770 (.ref 442))] 63) #[]))::
 (nat_lit 15,(oE #[(.type "ValueError")]))::
 (nat_lit 22,aB)::
 (nat_lit 23,(Obj.mk (.type "dict") none (.dict #[(ax P "__module__" 196 (.str "lotmeal.errors" 187)),(ax P "__firstlineno__" 200 (.int 2 199)),(ax P "__static_attributes__" 201 (.ref 22)),(ax P "__weakref__" 203 (.ref 25)),(ax P "__doc__" 204 .none)] 3) #[]))::
 (nat_lit 24,(Obj.mk (.type "type") none (.cls (ClassData.mk "LotError" [(.type "ValueError")] [(.ref 24),(.type "ValueError"),(.type "Exception"),(.type "BaseException"),(.type "object")] 23 "LotError" true [] [(.ref 37),(.ref 49),(.ref 61),(.ref 80),(.ref 99)] false none false)) #[(some (.ref 15)),none,(some (.str "LotError" 189)),(some (.str "LotError" 197)),(some (.builtin "ValueError.__new__")),(some (.bool true))]))::
 (nat_lit 25,(Obj.mk (.type "getset_descriptor") none (.fields #[(.str "__weakref__" 202),(.ref 24),(.builtin "ExceptionGroup.__weakref__"),.none]) #[]))::
 (nat_lit 28,(oE #[(.ref 24)]))::
 (nat_lit 35,aB)::
 (nat_lit 36,(Obj.mk (.type "dict") none (.dict #[(ax P "__module__" 214 (.str "lotmeal.errors" 187)),(ax P "__firstlineno__" 218 (.int 4 217)),(ax P "__static_attributes__" 219 (.ref 35)),(ax P "__doc__" 220 .none)] 2) #[]))::
 (nat_lit 37,(Obj.mk (.type "type") none (.cls (ClassData.mk "NoNumber" [(.ref 24)] [(.ref 37),(.ref 24),(.type "ValueError"),(.type "Exception"),(.type "BaseException"),(.type "object")] 36 "NoNumber" true [] [] false none false)) #[(some (.ref 28)),none,(some (.str "NoNumber" 207)),(some (.str "NoNumber" 215)),(some (.builtin "ValueError.__new__")),(some (.bool true))]))::
 (nat_lit 40,(oE #[(.ref 24)]))::
 (nat_lit 47,aB)::
 (nat_lit 48,(Obj.mk (.type "dict") none (.dict #[(ax P "__module__" 230 (.str "lotmeal.errors" 187)),(ax P "__firstlineno__" 234 (.int 6 233)),(ax P "__static_attributes__" 235 (.ref 47)),(ax P "__doc__" 236 .none)] 2) #[]))::
 (nat_lit 49,(Obj.mk (.type "type") none (.cls (ClassData.mk "TooGreat" [(.ref 24)] [(.ref 49),(.ref 24),(.type "ValueError"),(.type "Exception"),(.type "BaseException"),(.type "object")] 48 "TooGreat" true [] [] false none false)) #[(some (.ref 40)),none,(some (.str "TooGreat" 223)),(some (.str "TooGreat" 231)),(some (.builtin "ValueError.__new__")),(some (.bool true))]))::
 (nat_lit 52,(oE #[(.ref 24)]))::
 (nat_lit 59,aB)::
 (nat_lit 60,(Obj.mk (.type "dict") none (.dict #[(ax P "__module__" 246 (.str "lotmeal.errors" 187)),(ax P "__firstlineno__" 250 (.int 8 249)),(ax P "__static_attributes__" 251 (.ref 59)),(ax P "__doc__" 252 .none)] 2) #[]))::
 (nat_lit 61,(Obj.mk (.type "type") none (.cls (ClassData.mk "NoAsker" [(.ref 24)] [(.ref 61),(.ref 24),(.type "ValueError"),(.type "Exception"),(.type "BaseException"),(.type "object")] 60 "NoAsker" true [] [] false none false)) #[(some (.ref 52)),none,(some (.str "NoAsker" 239)),(some (.str "NoAsker" 247)),(some (.builtin "ValueError.__new__")),(some (.bool true))]))::
 (nat_lit 64,(oE #[(.ref 24)]))::
 (nat_lit 71,aB)::
 (nat_lit 73,(cF 270 ["self", "asker"]))::
 (nat_lit 74,aB)::
 (nat_lit 76,(kH "__init__" "NoThing.__init__" 267 12 2 71 72 (.ref 73) (.ref 74) 75 272))::
 (nat_lit 77,(kI "__init__" "NoThing.__init__" (kG (tp 5) 0) .none m0 (.ref 76)))::
 (nat_lit 78,(cF 275 ["asker"]))::
 (nat_lit 79,(Obj.mk (.type "dict") none (.dict #[(ax P "__module__" 262 (.str "lotmeal.errors" 187)),(ax P "__firstlineno__" 266 (.int 10 265)),(ax P "__init__" 274 (.ref 77)),(ax P "__static_attributes__" 276 (.ref 78)),(ax P "__doc__" 277 .none)] 2) #[]))::
 (nat_lit 80,(Obj.mk (.type "type") none (.cls (ClassData.mk "NoThing" [(.ref 24)] [(.ref 80),(.ref 24),(.type "ValueError"),(.type "Exception"),(.type "BaseException"),(.type "object")] 79 "NoThing" true [] [] false none false)) #[(some (.ref 64)),none,(some (.str "NoThing" 255)),(some (.str "NoThing" 263)),(some (.builtin "ValueError.__new__")),(some (.bool true))]))::
 (nat_lit 83,(oE #[(.ref 24)]))::
 (nat_lit 90,aB)::
 (nat_lit 92,(cF 295 ["self", "asker"]))::
 (nat_lit 93,aB)::
 (nat_lit 95,(kH "__init__" "Twice.__init__" 292 17 2 90 91 (.ref 92) (.ref 93) 94 297))::
 (nat_lit 96,(kI "__init__" "Twice.__init__" (kG (tp 6) 0) .none m0 (.ref 95)))::
 (nat_lit 97,(cF 300 ["asker"]))::
 (nat_lit 98,(Obj.mk (.type "dict") none (.dict #[(ax P "__module__" 287 (.str "lotmeal.errors" 187)),(ax P "__firstlineno__" 291 (.int 15 290)),(ax P "__init__" 299 (.ref 96)),(ax P "__static_attributes__" 301 (.ref 97)),(ax P "__doc__" 302 .none)] 2) #[]))::
 (nat_lit 99,(Obj.mk (.type "type") none (.cls (ClassData.mk "Twice" [(.ref 24)] [(.ref 99),(.ref 24),(.type "ValueError"),(.type "Exception"),(.type "BaseException"),(.type "object")] 98 "Twice" true [] [] false none false)) #[(some (.ref 83)),none,(some (.str "Twice" 280)),(some (.str "Twice" 288)),(some (.builtin "ValueError.__new__")),(some (.bool true))]))::
 (nat_lit 102,aB)::
 (nat_lit 104,(cF 310 ["number"]))::
 (nat_lit 105,aB)::
 (nat_lit 107,(bI "is_whole" 307 21 1 102 103 (.ref 104) (.ref 105) 106 311))::
 (nat_lit 108,(bJ "is_whole" (tp 8) .none m1 (.ref 107)))::
 (nat_lit 109,aB)::
 (nat_lit 111,(cF 317 ["one", "other", "rest"]))::
 (nat_lit 112,aB)::
 (nat_lit 114,(bI "common_part" 314 23 2 109 110 (.ref 111) (.ref 112) 113 320))::
 (nat_lit 115,(bJ "common_part" (tp 9) .none m1 (.ref 114)))::
 (nat_lit 116,(oE #[(.int 1 323)]))::
 (nat_lit 117,aB)::
 (nat_lit 119,(cF 327 ["top", "bottom", "part"]))::
 (nat_lit 120,aB)::
 (nat_lit 122,(bI "fraction" 324 29 2 117 118 (.ref 119) (.ref 120) 121 330))::
 (nat_lit 123,(bJ "fraction" (tp 10) (.ref 116) m1 (.ref 122)))::
 (nat_lit 124,aB)::
 (nat_lit 126,(cF 336 ["one", "other"]))::
 (nat_lit 127,aB)::
 (nat_lit 129,(bI "plus" 333 38 2 124 125 (.ref 126) (.ref 127) 128 338))::
 (nat_lit 130,(bJ "plus" (tp 11) .none m1 (.ref 129)))::
 (nat_lit 131,aB)::
 (nat_lit 133,(cF 344 ["some", "total", "one"]))::
 (nat_lit 134,aB)::
 (nat_lit 136,(bI "sum_of" 341 40 1 131 132 (.ref 133) (.ref 134) 135 347))::
 (nat_lit 137,(bJ "sum_of" (tp 12) .none m1 (.ref 136)))::
 (nat_lit 138,aB)::
 (nat_lit 140,(cF 353 ["some", "least", "one"]))::
 (nat_lit 141,aB)::
 (nat_lit 143,(bI "common_bottom" 350 45 1 138 139 (.ref 140) (.ref 141) 142 356))::
 (nat_lit 144,(bJ "common_bottom" (tp 13) .none m1 (.ref 143)))::
 (nat_lit 145,aB)::
 (nat_lit 148,(bI "bottom_of_all" 359 50 1 145 146 .none .none 147 362))::
 (nat_lit 149,(bJ "bottom_of_all" (tp 14) .none m1 (.ref 148)))::
 (nat_lit 150,aB)::
 (nat_lit 152,(cF 368 ["one", "bottom"]))::
 (nat_lit 153,aB)::
 (nat_lit 155,(bI "parts_of" 365 52 2 150 151 (.ref 152) (.ref 153) 154 370))::
 (nat_lit 156,(bJ "parts_of" (tp 15) .none m1 (.ref 155)))::
 (nat_lit 157,aB)::
 (nat_lit 160,(bI "check_orders" 379 57 2 157 158 .none .none 159 382))::
 (nat_lit 161,(bJ "check_orders" (tp 19) .none m2 (.ref 160)))::
 (nat_lit 162,aB)::
 (nat_lit 165,(bI "table_of" 385 64 2 162 163 .none .none 164 388))::
 (nat_lit 166,(bJ "table_of" (tp 20) .none m2 (.ref 165)))::
 (nat_lit 167,aB)::
 (nat_lit 170,(bI "full_order" 391 73 2 167 168 .none .none 169 394))::
 (nat_lit 171,(bJ "full_order" (tp 21) .none m2 (.ref 170)))::
 (nat_lit 172,aB)::
 (nat_lit 175,(bI "first_left" 397 77 2 172 173 .none .none 174 400))::
 (nat_lit 176,(bJ "first_left" (tp 22) .none m2 (.ref 175)))::
 (nat_lit 177,aB)::
 (nat_lit 180,(bI "dealt_of" 403 79 2 177 178 .none .none 179 406))::
 (nat_lit 181,(bJ "dealt_of" (tp 23) .none m2 (.ref 180)))::
 (nat_lit 182,aB)::
 (nat_lit 185,(bI "wishes" 411 82 2 182 183 .none .none 184 414))::
 (nat_lit 186,(bJ "wishes" (tp 25) .none m3 (.ref 185)))::
 (nat_lit 187,aB)::
 (nat_lit 190,(bI "over_pairs" 417 90 2 187 188 .none .none 189 420))::
 (nat_lit 191,(bJ "over_pairs" (tp 26) .none m3 (.ref 190)))::
 (nat_lit 192,aB)::
 (nat_lit 195,(bI "full_things" 423 92 2 192 193 .none .none 194 426))::
 (nat_lit 196,(bJ "full_things" (tp 27) .none m3 (.ref 195)))::
 (nat_lit 197,aB)::
 (nat_lit 200,(bI "lined_up" 429 94 2 197 198 .none .none 199 432))::
 (nat_lit 201,(bJ "lined_up" (tp 28) .none m3 (.ref 200)))::
 (nat_lit 202,aB)::
 (nat_lit 205,(bI "ring_among" 435 104 2 202 203 .none .none 204 438))::
 (nat_lit 206,(bJ "ring_among" (tp 29) .none m3 (.ref 205)))::
 (nat_lit 207,aB)::
 (nat_lit 210,(bI "judged" 441 113 2 207 208 .none .none 209 444))::
 (nat_lit 211,(bJ "judged" (tp 30) .none m3 (.ref 210)))::
 (nat_lit 219,aB)::
 (nat_lit 222,(kH "__init__" "Market.__init__" 461 128 4 219 220 .none .none 221 464))::
 (nat_lit 223,(kI "__init__" "Market.__init__" (kG (tp 32) 0) .none m4 (.ref 222)))::
 (nat_lit 224,aB)::
 (nat_lit 227,(kH "wanting" "Market.wanting" 467 136 1 224 225 .none .none 226 470))::
 (nat_lit 228,(kI "wanting" "Market.wanting" (kG (tp 32) 1) .none m4 (.ref 227)))::
 (nat_lit 229,aB)::
 (nat_lit 232,(kH "owners" "Market.owners" 473 139 2 229 230 .none .none 231 476))::
 (nat_lit 233,(kI "owners" "Market.owners" (kG (tp 32) 2) .none m4 (.ref 232)))::
 (nat_lit 234,aB)::
 (nat_lit 237,(kH "gone" "Market.gone" 479 142 1 234 235 .none .none 236 482))::
 (nat_lit 238,(kI "gone" "Market.gone" (kG (tp 32) 3) .none m4 (.ref 237)))::
 (nat_lit 239,aB)::
 (nat_lit 241,(cF 488 ["self", "one"]))::
 (nat_lit 242,aB)::
 (nat_lit 244,(kH "giver" "Market.giver" 485 145 2 239 240 (.ref 241) (.ref 242) 243 490))::
 (nat_lit 245,(kI "giver" "Market.giver" (kG (tp 32) 4) .none m4 (.ref 244)))::
 (nat_lit 246,aB)::
 (nat_lit 248,(cF 496 ["self", "gone", "rows", "passed", "asker", "one"]))::
 (nat_lit 249,aB)::
 (nat_lit 251,(kH "ring" "Market.ring" 493 148 1 246 247 (.ref 248) (.ref 249) 250 502))::
 (nat_lit 252,(kI "ring" "Market.ring" (kG (tp 32) 5) .none m4 (.ref 251)))::
 (nat_lit 253,aB)::
 (nat_lit 255,(cF 508 ["self", "one", "giver"]))::
 (nat_lit 256,aB)::
 (nat_lit 258,(kH "source" "Market.source" 505 160 3 253 254 (.ref 255) (.ref 256) 257 511))::
 (nat_lit 259,(kI "source" "Market.source" (kG (tp 32) 6) .none m4 (.ref 258)))::
 (nat_lit 260,aB)::
 (nat_lit 263,(kH "leave" "Market.leave" 514 163 2 260 261 .none .none 262 517))::
 (nat_lit 264,(kI "leave" "Market.leave" (kG (tp 32) 7) .none m4 (.ref 263)))::
 (nat_lit 265,aB)::
 (nat_lit 268,(kH "trade" "Market.trade" 520 167 1 265 266 .none .none 267 523))::
 (nat_lit 269,(kI "trade" "Market.trade" (kG (tp 32) 8) .none m4 (.ref 268)))::
 (nat_lit 270,(cF 526 ["got", "orders", "owned", "spare", "wanted"]))::
 (nat_lit 271,(Obj.mk (.type "dict") none (.dict #[(ax P "__module__" 456 (.str "lotmeal.better" 447)),(ax P "__firstlineno__" 460 (.int 126 459)),(ax P "__init__" 466 (.ref 223)),(ax P "wanting" 472 (.ref 228)),(ax P "owners" 478 (.ref 233)),(ax P "gone" 484 (.ref 238)),(ax P "giver" 492 (.ref 245)),(ax P "ring" 504 (.ref 252)),(ax P "source" 513 (.ref 259)),(ax P "leave" 519 (.ref 264)),(ax P "trade" 525 (.ref 269)),(ax P "__static_attributes__" 531 (.ref 270)),(ax P "__dict__" 533 (.ref 273)),(ax P "__weakref__" 535 (.ref 274)),(ax P "__doc__" 536 .none)] 4) #[]))::
 (nat_lit 272,(Obj.mk (.type "type") none (.cls (ClassData.mk "Market" [(.type "object")] [(.ref 272),(.type "object")] 271 "Market" true [] [] false none false)) #[none,none,(some (.str "Market" 449)),(some (.str "Market" 457)),(some (.builtin "object.__new__")),(some (.bool true))]))::
 (nat_lit 273,(Obj.mk (.type "getset_descriptor") none (.fields #[(.str "__dict__" 532),(.ref 272),(.builtin "function.__dict__"),(.builtin "function.__dict__#set")]) #[]))::
 (nat_lit 274,(Obj.mk (.type "getset_descriptor") none (.fields #[(.str "__weakref__" 534),(.ref 272),(.builtin "ExceptionGroup.__weakref__"),.none]) #[]))::
 (nat_lit 277,aB)::
 (nat_lit 280,(bI "bettered" 539 179 2 277 278 .none .none 279 542))::
 (nat_lit 281,(bJ "bettered" (tp 33) .none m4 (.ref 280)))::
 (nat_lit 282,aB)::
 (nat_lit 284,(cF 550 ["_law_script", "_law_k"]))::
 (nat_lit 285,aB)::
 (nat_lit 287,(bI "_law_cell_at" 547 188 2 282 283 (.ref 284) (.ref 285) 286 552))::
 (nat_lit 288,(bJ "_law_cell_at" (tp 35) .none m5 (.ref 287)))::
 (nat_lit 289,aB)::
 (nat_lit 291,(cF 558 ["_law_cell", "_law_many", "_law_drawn_here", "_law_found", "_law_k"]))::
 (nat_lit 292,aB)::
 (nat_lit 294,(bI "_law_stream" 555 192 2 289 290 (.ref 291) (.ref 292) 293 563))::
 (nat_lit 295,(bJ "_law_stream" (tp 36) .none m5 (.ref 294)))::
 (nat_lit 296,aB)::
 (nat_lit 298,(cF 569 ["_law_cell", "_law_many", "_law_some", "_law_left_here", "_law_order_here", "_law_k"]))::
 (nat_lit 299,aB)::
 (nat_lit 301,(bI "_law_order" 566 199 2 296 297 (.ref 298) (.ref 299) 300 575))::
 (nat_lit 302,(bJ "_law_order" (tp 37) .none m5 (.ref 301)))::
 (nat_lit 303,aB)::
 (nat_lit 305,(cF 581 ["_law_cells", "_law_many", "_law_orders_here", "_law_cell"]))::
 (nat_lit 306,aB)::
 (nat_lit 308,(bI "_law_orders" 578 208 2 303 304 (.ref 305) (.ref 306) 307 585))::
 (nat_lit 309,(bJ "_law_orders" (tp 38) .none m5 (.ref 308)))::
 (nat_lit 310,aB)::
 (nat_lit 312,(cF 591 ["_law_cell", "_law_many", "_law_found", "_law_one"]))::
 (nat_lit 313,aB)::
 (nat_lit 315,(bI "_law_counts" 588 216 2 310 311 (.ref 312) (.ref 313) 314 595))::
 (nat_lit 316,(bJ "_law_counts" (tp 39) .none m5 (.ref 315)))::
 (nat_lit 317,aB)::
 (nat_lit 319,(cF 601 ["_law_one", "_law_other"]))::
 (nat_lit 320,aB)::
 (nat_lit 322,(bI "_law_divisor" 598 221 2 317 318 (.ref 319) (.ref 320) 321 603))::
 (nat_lit 323,(bJ "_law_divisor" (tp 40) .none m5 (.ref 322)))::
 (nat_lit 324,aB)::
 (nat_lit 326,(cF 609 ["_law_top", "_law_bottom", "_law_by"]))::
 (nat_lit 327,aB)::
 (nat_lit 329,(bI "_law_lowest" 606 225 2 324 325 (.ref 326) (.ref 327) 328 612))::
 (nat_lit 330,(bJ "_law_lowest" (tp 41) .none m5 (.ref 329)))::
 (nat_lit 331,aB)::
 (nat_lit 334,(bI "_law_turn_deal" 615 228 3 331 332 .none .none 333 618))::
 (nat_lit 335,(bJ "_law_turn_deal" (tp 42) .none m5 (.ref 334)))::
 (nat_lit 336,aB)::
 (nat_lit 339,(bI "_law_any_deal" 621 243 3 336 337 .none .none 338 624))::
 (nat_lit 340,(bJ "_law_any_deal" (tp 43) .none m5 (.ref 339)))::
 (nat_lit 341,aB)::
 (nat_lit 344,(bI "_law_drawn" 627 253 3 341 342 .none .none 343 630))::
 (nat_lit 345,(bJ "_law_drawn" (tp 44) .none m5 (.ref 344)))::
 (nat_lit 346,aB)::
 (nat_lit 349,(bI "_law_full" 633 270 2 346 347 .none .none 348 636))::
 (nat_lit 350,(bJ "_law_full" (tp 45) .none m5 (.ref 349)))::
 (nat_lit 351,aB)::
 (nat_lit 353,(cF 642 ["_law_one", "_law_other"]))::
 (nat_lit 354,aB)::
 (nat_lit 356,(bI "_law_plus" 639 272 2 351 352 (.ref 353) (.ref 354) 355 644))::
 (nat_lit 357,(bJ "_law_plus" (tp 46) .none m5 (.ref 356)))::
 (nat_lit 358,aB)::
 (nat_lit 360,(cF 650 ["_law_one", "_law_other"]))::
 (nat_lit 361,aB)::
 (nat_lit 363,(bI "_law_under" 647 274 2 358 359 (.ref 360) (.ref 361) 362 652))::
 (nat_lit 364,(bJ "_law_under" (tp 47) .none m5 (.ref 363)))::
 (nat_lit 365,aB)::
 (nat_lit 367,(cF 658 ["_law_counts_here", "_law_order_here", "_law_row", "_law_total", "_law_found", "_law_one"]))::
 (nat_lit 368,aB)::
 (nat_lit 370,(bI "_law_sums" 655 276 3 365 366 (.ref 367) (.ref 368) 369 664))::
 (nat_lit 371,(bJ "_law_sums" (tp 48) .none m5 (.ref 370)))::
 (nat_lit 372,aB)::
 (nat_lit 374,(cF 670 ["_law_mine", "_law_theirs", "_law_here", "_law_there"]))::
 (nat_lit 375,aB)::
 (nat_lit 377,(bI "_law_no_less" 667 283 2 372 373 (.ref 374) (.ref 375) 376 674))::
 (nat_lit 378,(bJ "_law_no_less" (tp 49) .none m5 (.ref 377)))::
 (nat_lit 379,aB)::
 (nat_lit 382,(bI "_law_tabled" 677 288 1 379 380 .none .none 381 680))::
 (nat_lit 383,(bJ "_law_tabled" (tp 50) .none m5 (.ref 382)))::
 (nat_lit 384,aB)::
 (nat_lit 386,(cF 686 ["_law_found"]))::
 (nat_lit 387,aB)::
 (nat_lit 389,(bI "_law_whole" 683 293 1 384 385 (.ref 386) (.ref 387) 388 687))::
 (nat_lit 390,(bJ "_law_whole" (tp 51) .none m5 (.ref 389)))::
 (nat_lit 391,aB)::
 (nat_lit 393,(cF 693 ["_law_row", "_law_many", "_law_share"]))::
 (nat_lit 394,aB)::
 (nat_lit 396,(bI "_law_is_row" 690 295 2 391 392 (.ref 393) (.ref 394) 395 696))::
 (nat_lit 397,(bJ "_law_is_row" (tp 52) .none m5 (.ref 396)))::
 (nat_lit 398,aB)::
 (nat_lit 400,(cF 702 ["_law_shares", "_law_one", "_law_total", "_law_row"]))::
 (nat_lit 401,aB)::
 (nat_lit 403,(bI "_law_column" 699 304 2 398 399 (.ref 400) (.ref 401) 402 706))::
 (nat_lit 404,(bJ "_law_column" (tp 53) .none m5 (.ref 403)))::
 (nat_lit 405,aB)::
 (nat_lit 407,(cF 712 ["_law_found", "_law_counts_here", "_law_askers", "_law_row", "_law_thing"]))::
 (nat_lit 408,aB)::
 (nat_lit 410,(bI "_law_are_shares" 709 309 3 405 406 (.ref 407) (.ref 408) 409 717))::
 (nat_lit 411,(bJ "_law_are_shares" (tp 54) .none m5 (.ref 410)))::
 (nat_lit 412,aB)::
 (nat_lit 415,(bI "_law_wishes" 720 319 3 412 413 .none .none 414 723))::
 (nat_lit 416,(bJ "_law_wishes" (tp 55) .none m5 (.ref 415)))::
 (nat_lit 417,aB)::
 (nat_lit 419,(cF 729 ["_law_counts_here", "_law_shares", "_law_wishes_here", "_law_found", "_law_asker", "_law_better_here", "_law_one"]))::
 (nat_lit 420,aB)::
 (nat_lit 422,(bI "_law_left" 726 327 3 417 418 (.ref 419) (.ref 420) 421 736))::
 (nat_lit 423,(bJ "_law_left" (tp 56) .none m5 (.ref 422)))::
 (nat_lit 424,aB)::
 (nat_lit 426,(cF 742 ["_law_found", "_law_counts_here", "_law_orders_here", "_law_shares", "_law_wishes_here", "_law_asker", "_law_better_here", "_law_one"]))::
 (nat_lit 427,aB)::
 (nat_lit 429,(bI "_law_good" 739 333 4 424 425 (.ref 426) (.ref 427) 428 750))::
 (nat_lit 430,(bJ "_law_good" (tp 57) .none m5 (.ref 429)))::
 (nat_lit 431,aB)::
 (nat_lit 433,(cF 756 ["_law_counts_here", "_law_orders_here", "_law_found", "_law_shares", "_law_asker", "_law_mine"]))::
 (nat_lit 434,aB)::
 (nat_lit 436,(bI "_law_better" 753 343 4 431 432 (.ref 433) (.ref 434) 435 762))::
 (nat_lit 437,(bJ "_law_better" (tp 58) .none m5 (.ref 436)))::
 (nat_lit 438,aB)::
 (nat_lit 441,(bI "law" 765 351 1 438 439 .none .none 440 768))::
 (nat_lit 442,(bJ "law" (tp 59) .none m5 (.ref 441)))::[]
def hA:List adV:=[2,3,15,22,23,24,25,28,35,36,37,40,47,48,49,52,59,60,61,64,71,73,74,76,77,78,79,80,83,90,92,93,95,96,97,98,99,102,104,105,107,108,109,111,112,114,115,116,117,119,120,122,123,124,126,127,129,130,131,133,134,136,137,138,140,141,143,144,145,148,149,150,152,153,155,156,157,160,161,162,165,166,167,170,171,172,175,176,177,180,181,182,185,186,187,190,191,192,195,196,197,200,201,202,205,206,207,210,211,219,222,223,224,227,228,229,232,233,234,237,238,239,241,242,244,245,246,248,249,251,252,253,255,256,258,259,260,263,264,265,268,269,270,271,272,273,274,277,280,281,282,284,285,287,288,289,291,292,294,295,296,298,299,301,302,303,305,306,308,309,310,312,313,315,316,317,319,320,322,323,324,326,327,329,330,331,334,335,336,339,340,341,344,345,346,349,350,351,353,354,356,357,358,360,361,363,364,365,367,368,370,371,372,374,375,377,378,379,382,383,384,386,387,389,390,391,393,394,396,397,398,400,401,403,404,405,407,408,410,411,412,415,416,417,419,420,422,423,424,426,427,429,430,431,433,434,436,437,438,441,442]
theorem zl (P:Params):hA=(hK P).map (·.1):=by kernel_rfl
def hV:agc:={pr with main:={pr.main with body:=[1,2,3,4,5,6,8,9,11,12,13,14,15,17,18,19,20,21,22,23,25,26,27,28,29,30,32,33,35,36,37,38,39,40,41,42,43,44,45,46,47,48,49,50,51,52,53,54,55,56,57,58,59].map tp}}
def hX (s:adX):Bool:=xlAt hV [] s&&recOk (RowW.records PySem.Challenge.rw_lotmeal_k26_bettered_again.row.toRowW) s
noncomputable abbrev hH:Hook:=kHook hK hA zl
theorem h1:opening pr=plainProg pr.main.scope.names:=by kernel_rfl
theorem h2 (s:adX):fenceModules? pr s=some s:=by kernel_rfl
theorem h3 (w:agd):(λos=>(nW pr w 6452 os).map λst=>DI pr w st)=λ_=>some true:=by kernel_rfl
theorem h4 (w:agd):(λos=>(nW pr w 6452 os).map λst=>openSeen hV ["fraction"] (importedModules pr.main.body) hX true st.abs)=λ_=>some (openGood hV ["fraction"]):=by kernel_rfl
theorem h5 (w:agd):(λos=>(nW pr w 6452 os).map λst=>hH.obs st.abs)=λ_=>some (hH.val w):=by kernel_rfl
theorem hL:LeftO pr hV ["fraction"] hX hH.obs hH.val 6452:=WK h1 'Q' h2 h3 h4 h5
end iY
namespace L2
open PySem PySem.Spec PyProof.Rows
abbrev Key:=Sum Int Str
def zm:Key->vn->Bool
 | .inl k,v=>Value.isInt k v
 | .inr x,v=>Value.isStrOf x v
def acB (w:agd):Key->Int
 | .inl k=>hashInt k
 | .inr x=>hashStr w x
theorem mz:∀{k:Key} {v:vn},zm k v=true->(∃i t,k=Sum.inl i/\v=Value.int i t)\/(∃x t,k=Sum.inr x/\v=Value.str x t)
 | .inl i,v,h=>by
  obtain⟨t,e⟩:=Value.isInt_shape h
  simp_all
 | .inr x,v,h=>by
  obtain⟨t,e⟩:=Value.isStrOf_shape h
  simp_all
theorem WL (i:Int)(t:Tok):zm (.inl i) (.int i t)=true:=by simp[zm,Value.isInt]
theorem aaF (a b:Int):decide ((Sum.inl a:Key)=Sum.inl b)=(a==b):=by
 grind
theorem aaG (a b:Str):decide ((Sum.inr a:Key)=Sum.inr b)=decide (a=b):=by
 simp_all
theorem aaH (a:Int)(b:Str):decide ((Sum.inl a:Key)=Sum.inr b)=false:=LF (λq=>nomatch q)
theorem aaI (a:Str)(b:Int):decide ((Sum.inr a:Key)=Sum.inl b)=false:=LF (λq=>nomatch q)
def uy (prog:agc)(w:agd):PySem.KeyKind prog w Key where
 is:=zm
 hash:=acB w
 inj:=λv a b ha hb=>by
  obtain⟨i,t,rfl,rfl⟩|⟨x,t,rfl,rfl⟩:=mz ha
  ·obtain⟨j,u,rfl,e⟩|⟨y,u,rfl,e⟩:=mz hb
   ·injection e with e1 _;rw[e1]
   ·exact nomatch e
  ·obtain⟨j,u,rfl,e⟩|⟨y,u,rfl,e⟩:=mz hb
   ·exact nomatch e
   ·injection e with e1 _;rw[e1]
 byValue:=λk v h=>by
  obtain⟨i,t,rfl,rfl⟩|⟨x,t,rfl,rfl⟩:=mz h<;>rfl
 pyHash:=λhv h=>by
  obtain⟨i,t,rfl,rfl⟩|⟨x,t,rfl,rfl⟩:=mz hv
  ·exact wpAny_pyHash_int h
  ·exact wpAny_pyHash_str h
 eqBool:=λhu hv h=>by
  obtain⟨i,t,rfl,rfl⟩|⟨x,t,rfl,rfl⟩:=mz hu
  ·obtain⟨j,u,rfl,rfl⟩|⟨y,u,rfl,rfl⟩:=mz hv
   ·rw[aaF]at h;exact wpAny_eqBool_int h
   ·rw[aaH]at h;exact SeqAt.EqAt.int_str i t y u _ _ _ _ h
  ·obtain⟨j,u,rfl,rfl⟩|⟨y,u,rfl,rfl⟩:=mz hv
   ·rw[aaI]at h;exact SeqAt.EqAt.str_int x t j u _ _ _ _ h
   ·rw[aaG]at h;exact wpAny_eqBool_str h
 «strs»:=λk x t v h=>by
  obtain⟨i,u,rfl,e⟩|⟨y,u,rfl,e⟩:=mz h
  ·exact nomatch e
  ·injection e with e1 _
   subst e1;cases v<;>rfl
theorem Jg (prog:agc)(w:agd)(i:Int)(t:Tok):(uy prog w).is (.inl i) (.int i t)=true:=WL i t
inductive V where
 |aW|bl (b:Bool)|int (i:Int)|str (x:Str)|jA (b:Array UInt8)|oF (b:UInt64)|ref (a:adV)|ty (n:String)
 deriving DecidableEq
def RelV:V->vn->Prop
 | .aW,u=>u=Value.none
 | .bl b,u=>u=Value.bool b
 | .int i,u=>∃t,u=Value.int i t
 | .str x,u=>∃t,u=Value.str x t
 | .jA b,u=>∃t,u=Value.bytes b t
 | .oF b,u=>∃t,u=Value.float b t
 | .ref a,u=>u=Value.ref a
 | .ty n,u=>u=Value.type n
abbrev Vals:List V->List vn->Prop:=Paired RelV
theorem Vals.length (r:Vals xs us):xs.length=us.length:=Paired.length r
theorem Vals.get:∀{xs:List V} {us:List vn} {i:Nat} {x:V},Vals xs us->xs[i]?=some x->∃u,us[i]?=some u/\RelV x u
 |_,_,_,_,.nil,e=>by simp at e
 |_,_,0,_,.cons r _,e=>'J'
 |_,_,i+1,x,.cons _ t,e=>by
  obtain⟨u,h1,h2⟩:=Vals.get (i:=i) (x:=x) t (by assumption)
  simp_all
theorem Vals.set (r:RelV x u):∀{xs:List V} {us:List vn} (i:Nat),Vals xs us->Vals (xs.set i x) (us.set i u)
 |_,_,_,.nil=>.nil
 |_,_,0,.cons _ t=>.cons r t
 |_,_,i+1,.cons q t=>.cons q (Vals.set r i t)
theorem Vals.append:∀{xs ys:List V} {us ws:List vn},Vals xs us->Vals ys ws->Vals (xs++ys) (us++ws)
 |_,_,_,_,.nil=>λs=>s
 |_,_,_,_,.cons r t=>λs=>.cons r (Vals.append t s)
theorem Vals.take:∀{xs:List V} {us:List vn} (n:Nat),Vals xs us->Vals (xs.take n) (us.take n)
 |_,_,0,_=>.nil
 |_,_,_+1,.nil=>.nil
 |_,_,n+1,.cons r t=>.cons r (Vals.take n t)
theorem Vals.drop:∀{xs:List V} {us:List vn} (n:Nat),Vals xs us->Vals (xs.drop n) (us.drop n)
 |_,_,0,r=>r
 |_,_,_+1,.nil=>.nil
 |_,_,n+1,.cons _ t=>Vals.drop n t
def nh:Option V->Option vn->Prop
 |some v,some u=>RelV v u
 |none,none=>True
 |_,_=>False
def KV {κ:Type}:List (κ×V)->List (κ×vn)->Prop:=Paired λ(p : κ×V) (q : κ×vn)=>p.1=q.1/\RelV p.2 q.2
def kV:Key->V
 | .inl i=>.int i
 | .inr x=>.str x
inductive HO where
 |lst (xs:List V)
 |tup (xs:List V)
 |dK (eu:List (Key×V))|dT (eu:List (List Key×V))
 |set (S:Int->Bool) (n:Nat)
 |ins (C dx:adV) (fs:List (Str×V))
 |own (x:adV)
 |xd (fs:List (Str×V))
 |met (f x:adV)
 |bK (lo hi:Int)
 |dM (o:Obj) (u:HO)
 |qm (ps:Array vn)
 |ext (φ:Heap->Prop)
abbrev Hp:=adV->Option HO
def upd (H:Hp)(a:adV)(o:HO):Hp:=λb=>if b=a then some o else H b
theorem bQ:upd H a o a=some o:=by unfold upd;rw[uu rfl]
theorem aQ (h:b≠a):upd H a o b=H b:=by unfold upd;rw[rf h]
theorem jZ {H:Hp}(h:H a=some o)(h':H b=none):a≠b:=by
 lia
section
variable (P:agc) (w:agd)
def iw (H:Hp)(h:Heap)(a:adV):HO->Prop
 | .lst xs=>xs.length<=sizeLine/\∃(its:List vn) (n:Nat),Vals xs its/\h.get? a=some {cls:=.type "list",data:=.seq its.toArray n}
 | .tup xs=>xs.length<=sizeLine/\∃its:List vn,Vals xs its/\IsTup h a its.toArray
 | .dK eu=>eu.length<=sizeLine/\(a==sysModules)=false/\∃vs,KV eu vs/\h.DictOf (uy P w) a vs
 | .dT eu=>eu.length<=sizeLine/\(a==sysModules)=false/\∃xs:List (List Key×adV×vn),
   Paired (λ(p:List Key×V) (q:List Key×adV×vn)=>p.1=q.1/\H q.2.1=some (.tup (p.1.map kV))/\RelV p.2 q.2.2) eu xs /\
   ∃o es ep,h.get? a=some o/\o.ExactDict/\o.data=.dict es ep/\es.toList=xs.map (entryOfKey (tupleKind (uy P w)))/\(xs.map (·.1)).Nodup
 | .set S n=>h.SetOf (intKind P w) a S n
 | .ins C dx fs=>H dx=some (.own a)/\fs.length<=1000/\dx≠a/\h.get? a=some (instObj C dx) /\
   ∃mA,h.Ns1 dx mA/\(∀f,nh (fs.lookup f) (mA f))/\PySem.Within mA (fs.map (·.1))
 | .own _=>∃o,h.get? a=some o
 | .xd fs=>∃mA,h.Ns1 a mA/\∀f,nh (fs.lookup f) (mA f)
 | .bK lo hi=>∃t u v,h.get? a=some {cls:=.type "range",data:=.fields #[.int lo t,.int hi u,.int 1 v]}
 | .dM o u=>h.get? a=some o/\iw H h a u
 | .qm ps=>h.get? a=some {cls:=.none,data:=.fields ps}
 | .met f x=>h.get? a=some (PySem.W.methodObj (.ref f) (.ref x))
 | .ext φ => φ h/\(∃o,h.get? a=some o)/\∀h1 h2:Heap,φ h1->(∀o,h1.get? a=some o->h2.get? a=some o)->φ h2
def dU (H:Hp)(h:Heap):Prop:=∀a o,H a=some o->iw P w H h a o
end
section
variable {a:adV}
theorem iw.lt (x:iw P w H h a o):a<h.objs.size:=by
 cases o with
 |lst xs=>obtain⟨_,_,_,_,e⟩:=x;exact nt e
 |tup xs=>obtain⟨_,_,_,p⟩:=x;exact p.lt
 |dK eu=>obtain⟨_,_,_,_,o,_,_,e,_⟩:=x;exact nt e
 |dT eu=>obtain⟨_,_,_,_,o,_,_,e,_⟩:=x;exact nt e
 |set S n=>obtain⟨o,_,_,_,e,_⟩:=x;exact nt e
 |ins C dx fs=>obtain⟨_,_,_,e,_⟩:=x;exact nt e
 |own y=>obtain⟨_,e⟩:=x;exact nt e
 |xd fs=>obtain⟨_,⟨_,_,_,e,_⟩,_⟩:=x;exact nt e
 |bK lo hi=>obtain⟨_,_,_,e⟩:=x;exact nt e
 |dM ob u=>obtain⟨e,_⟩:=x;exact nt e
 |qm ps=>exact nt (x)
 |met f y=>exact nt (x)
 |ext φ => obtain⟨_,⟨_,e⟩,_⟩:=x;exact nt e
theorem Paired.PU:∀{PV:List α} {l₂:List β},Paired F PV l₂->(∀a b,F a b->G a b)->Paired G PV l₂
 |_,_,.nil=>λ_=>.nil
 |_,_,.cons r t=>λf=>.cons (f _ _ r) (Paired.PU t f)
theorem iw.ni (x:iw P w H h a o)(k:∀b u,(b=a\/H b=some (.own a))->h.get? b=some u->h'.get? b=some u)(ho:∀b,H b=some (.own a)->H' b=some (.own a))(ht:∀b xs,H b=some (.tup xs)->H' b=some (.tup xs)):iw P w H' h' a o:=by
 induction o with
 |lst xs=>obtain⟨z,its,n,r,e⟩:=x;exact⟨z,its,n,r,k _ _ (.inl rfl) e⟩
 |tup xs=>obtain⟨z,its,r,ob,e,c⟩:=x;exact⟨z,its,r,ob,k _ _ (.inl rfl) e,c⟩
 |dK eu=>obtain⟨z,y,vs,r,ob,es,ep,e,c⟩:=x;exact⟨z,y,vs,r,ob,es,ep,k _ _ (.inl rfl) e,c⟩
 |dT eu=>
  obtain⟨z,y,xs,r,ob,es,ep,e,c⟩:=x;exact⟨z,y,xs,Paired.PU r λp q z=>⟨z.1,ht _ _ z.2.1,z.2.2⟩,ob,es,ep,k _ _ (.inl rfl) e,c⟩
 |set S n=>obtain⟨ob,es,ep,t,e,c⟩:_:=x;exact⟨ob,es,ep,t,k _ _ (.inl rfl) e,c⟩
 |ins C dx fs=>
  obtain⟨d,z,ne,e,mA,⟨od,es,ep,e2,c⟩,r⟩:_:=x;exact⟨ho _ d,z,ne,k _ _ (.inl rfl) e,mA,⟨od,es,ep,k _ _ (.inr d) e2,c⟩,r⟩
 |own y=>obtain⟨ob,e⟩:=x;exact⟨ob,k _ _ (.inl rfl) e⟩
 |xd fs=>obtain⟨mA,⟨od,es,ep,e,c⟩,r⟩:_:=x;exact⟨mA,⟨od,es,ep,k _ _ (.inl rfl) e,c⟩,r⟩
 |bK lo hi=>obtain⟨t,u,v,e⟩:_:=x;exact⟨t,u,v,k _ _ (.inl rfl) e⟩
 |dM ob u ih=>obtain⟨e,q⟩:=x;exact⟨k _ _ (.inl rfl) e,ih q⟩
 |qm ps=>
  have e:=x;exact k a _ (.inl rfl) e
 |met f y=>
  have e:=x;exact k a _ (.inl rfl) e
 |ext φ => obtain⟨p,⟨o,e⟩,st⟩:=x;exact⟨st _ _ p λo q=>k _ _ (.inl rfl) q,⟨o,k _ _ (.inl rfl) e⟩,st⟩
theorem dU.lt (x:dU P w H h)(e:H a=some o):a<h.objs.size:=(x a o e).lt
theorem dU.fresh (x:dU P w H h)(e:h.objs.size<=a):H a=none:=by
 cases q:H a with
 |none=>rfl
 |some u=>exact absurd (zd (x.lt q) e) (aep _)
theorem dU.kept (x:dU P w H h)(k:∀b u,h.get? b=some u->h'.get? b=some u):dU P w H h':=λa o e=>
 (x a o e).ni (λb u _ q=>k b u q) (λ_ q=>q) λ_ _ q=>q
theorem dU.laid (x:dU P w H h)(k:∀b u,h.get? b=some u->h'.get? b=some u)(hp:h.objs.size<=a)(new:iw P w (upd H a o) h' a o):dU P w (upd H a o) h':=λb u e=>by
 have hn:=x.fresh hp;by_cases hb:b=a
 ·subst hb;rw[bQ]at e;cases e;exact new
 ·rw[aQ hb]at e;exact(x b u e).ni (λc v _ q=>k c v q) (λc q=>by rw[aQ (jZ q hn)];exact q) λc xs q=>by rw[aQ (jZ q hn)];exact q
end
def Rd (H:Hp)(a:adV)(u:HO):Prop:=H a=some u\/∃o,H a=some (.dM o u)
theorem Rd.ok (r:Rd H a u)(x:dU P w H h):iw P w H h a u:=by
 obtain r|⟨o,r⟩:=r
 ·exact x a u r
 ·obtain⟨_,q⟩:=x a _ r;exact q
def zY:Option HO->Prop
 |some (.lst _)=>True
 |some (.dK _)=>True
 |some (.dT _)=>True
 |some (.set _ _)=>True
 |some (.ins _ _ _)=>True
 |some (.ext _)=>True
 |_=>False
section
theorem dU.write (ok:dU P w H h)(mu:zY (H x))(he:e=x\/H e=some (.own x))(k:∀b u,b≠e->h.get? b=some u->h'.get? b=some u)(vU:∃u,h'.get? e=some u)(new:iw P w (upd H x o') h' x o'):dU P w (upd H x o') h':=λb u q=>by
 have acC:∀c y,H c=some (.own y)->c≠x:=λc y r z=>by subst z;rw[r]at mu;exact mu
 have acD:∀c xs,H c=some (.tup xs)->c≠x:=λc xs r z=>by subst z;rw[r]at mu;exact mu
 by_cases hb:b=x
 ·subst hb;rw[bQ]at q;cases q;exact new
 ·rw[aQ hb]at q;by_cases hbe:b=e
  ·have q':H b=some (.own x):=by
    lia
   rw[q]at q';cases q';obtain⟨v,hv⟩:=vU;exact⟨v,'J'⟩
  ·refine(ok b u q).ni (λc v hc r=>k c v ?_ r) (λc r=>by rw[aQ (acC c b r)];exact r) λc xs r=>by rw[aQ (acD c xs r)];exact r
   grind
end
structure Un (fs ex:List adV) (H H':Hp) (h h':Heap):Prop where
 keep:∀b o,h.get? b=some o->H b=none->b∉fs->b∉ex->h'.get? b=some o
 slot:∀b o,h.get? b=some o->H b=none->b∈fs->b∉ex->∃sl,h'.get? b=some {o with slots:=sl}
 free:∀b o,h.get? b=some o->H b=none->b∉ex->H' b=none
 there:∀b o,h.get? b=some o->b∉ex->∃o',h'.get? b=some o'
 lK:∀b xs,H b=some (.tup xs)->H' b=some (.tup xs)
 ky:∀b o u,H b=some (.dM o u)->H' b=some (.dM o u)
 lL:∀b ps,H b=some (.qm ps)->∃more,H' b=some (.qm (ps++more))
section
variable {h:Heap}{a:adV}
theorem Un.any (u:Un fs ex H H1 h h1)(q:h.get? b=some ob)(n:H b=none)(hx:b∉ex):∃sl,h1.get? b=some {ob with slots:=sl}:=by
 by_cases hb:b∈fs
 ·exact u.slot b ob q n hb hx
 ·exact⟨ob.slots,u.keep b ob q n hb hx⟩
theorem Un.kept (k:∀b u,h.get? b=some u->h'.get? b=some u):Un fs ex H H h h':=
 ⟨λb ob q _ _ _=>k b ob q,λb ob q _ _ _=>⟨ob.slots,k b ob q⟩,λ_ _ _ n _=>n,λb ob q _=>⟨ob,k b ob q⟩,λ_ _ q=>q,λ_ _ _ q=>q,λ_ ps q=>⟨#[],by assumption⟩⟩
theorem Un.refl:Un fs ex H H h h:=Un.kept λ_ _ q=>q
theorem Un.laid (k:∀b u,h.get? b=some u->h'.get? b=some u)(hp:h.objs.size<=a)(hn:H a=none):Un fs ex H (upd H a o) h h' where
 keep:=λb u q _ _ _=>k b u q
 slot:=λb u q _ _ _=>⟨u.slots,k b u q⟩
 free:=λb u q n _=>by rw[aQ (AN (zd (nt q) hp))];exact n
 there:=λb u q _=>⟨u,k b u q⟩
 lK:=λb xs q=>by rw[aQ (jZ q hn)];exact q
 ky:=λb u xs q=>by rw[aQ (jZ q hn)];exact q
 lL:=λb ps q=>⟨#[],by rw[aQ (jZ q hn),q];simp⟩
theorem Un.write (mu:zY (H x))(he:e=x\/H e=some (.own x))(k:∀b u,b≠e->h.get? b=some u->h'.get? b=some u)(vU:∃u,h'.get? e=some u):Un fs ex H (upd H x o) h h':=by
 have hx:∀b,H b=none->b≠x:=λb n z=>by subst z;rw[n]at mu;exact mu
 have hb:∀b,H b=none->b≠e:=λb n z=>by
  simp_all
 have hm:∀b u,H b=some u->¬zY (some u)->b≠x:=λb u q nm z=>'J'
 refine⟨λb u q n _ _=>k b u (hb b n) q,λb u q n _ _=>⟨u.slots,k b u (hb b n) q⟩,λb u q n _=>by rw[aQ (hx b n)];exact n,λb u q _=>?_,
  λb xs q=>by rw[aQ (hm b _ q λz=>z)];exact q,λb u xs q=>by rw[aQ (hm b _ q λz=>z)];exact q,λb ps q=>⟨#[],by rw[aQ (hm b _ q λz=>z),q];simp⟩⟩
 grind
end
def zZ (h:Heap)(H:Hp):List adV:=(List.range h.objs.size).filter λa=>(H a).isSome
def ot (h:Heap)(H:Hp):Heap:=PySem.W.hideAll h (zZ h H)
theorem WM (h:Heap)(H:Hp):(ot h H).objs.size=h.objs.size:=PySem.W.hideAll_size _ _
theorem XB (e:h.get? b=some o)(n:H b=none):(ot h H).get? b=some o:=
 PySem.W.hideAll_get _ e λhm=>by
  have q:=(B0.mp hm).2
  simp_all
theorem YT (e:(ot h H).get? b=some o):h.get? b=some o/\H b=none:=by
 have e':=PySem.W.of_hideAll (zZ h H) e;refine⟨e',?_⟩;cases q:H b with
 |none=>rfl
 |some x=>
  have hm:b∈zZ h H:=B0.mpr ⟨l9.mpr (nt e'),by simp[q]⟩;have z:(ot h H).get? b=none:=PySem.W.hideAll_none (zZ h H) hm
  simp_all
structure Mod (K:Frag) (mg:Str->Option vn) (base:Heap):Prop where
 vV:K.In base
 glob:base.Ns mainGlobals mg
 blt:∃mb,base.Ns builtinsNs mb/\∀x:Str,x ≠ "__name__"->mb x=bootBuiltins x
 nolimit:base.NoLimit
structure Cx where
 prog:agc
 w:agd
 K:Frag
 mg:Str->Option vn
 base:Heap
 A:Around
 N:List Str
 dZ:adX
 vB:Hp
 env:Env
 outer:List Env
 stack:List Env
 ex:List adV
 fn:Str->Bool
 calm:Bool
 pn:List (adV×Obj)
 xe:vn->adX->Prop
def fH (l:List Env):List adV:=l.filterMap (·.frame)
abbrev Cx.fs (X:Cx):List adV:=fH X.outer
def iF (sc:Scope)(x:Str):Prop:=sc.names.lookup x=some .local\/sc.names.lookup x=some .cell\/sc.names.lookup x=some .free
def Loc (sc:Scope)(x:Str):Prop:=sc.names.lookup x=some .local\/sc.names.lookup x=some .cell
def Look (env:Env)(h:Heap)(m:Str->Option vn)(x:Str)(u:vn):Prop:=
 (env.kindOf x=some .local/\m x=some u)\/((env.kindOf x=some .cell\/env.kindOf x=some .free)/\∃c,env.cells.lookup x=some c/\h.IsCell c (some u))
structure Cx.Ok (X:Cx):Prop where
 mod:Mod X.K X.mg X.base
 kind:X.env.scope.kind=.function
 glob:X.env.globals=mainGlobals
 blt:X.env.builtins=builtinsNs
 above:X.dZ.heap.objs.size<=X.env.locals
 inj:∀x y c,X.env.cells.lookup x=some c->X.env.cells.lookup y=some c->x=y
 has:∀x,(X.env.kindOf x=some .cell\/X.env.kindOf x=some .free)->∃c,X.env.cells.lookup x=some c
 vW:∀x c,X.fn x=true->X.env.cells.lookup x=some c->X.dZ.heap.objs.size<=c
 hd:X.calm=true->X.A.handled=none
 frames:X.A.frames=some X.stack
 qo:X.stack=X.outer\/(X.stack=X.env::X.outer/\X.env.frame=some X.env.locals)
 QP:∀b∈X.ex,b≠X.env.locals/\∀x c,X.env.cells.lookup x=some c->c≠b
 bs:∀b o,X.base.get? b=some o->X.dZ.heap.get? b=some o/\X.vB b=none
 oG:X.base.objs.size<=X.dZ.heap.objs.size
 vC:∀b o,X.base.get? b=some o->b∉X.ex
 zK:∀b∈X.ex,b∉X.fs
 jP:X.dZ.heap.FunFrames X.base X.outer
 qp:∀b∈X.fs,X.vB b=none
structure Inv (X:Cx) (pins:List (adV×Obj)) (σ:List (Option V)) (H:Hp) (s:adX):Prop where
 ok:X.Ok
 os:s.os=X.dZ.os
 bare:AllBare s.gens
 base:Un X.fs X.ex X.vB H X.dZ.heap s.heap
 loc:∃m,s.heap.Ns X.env.locals m/\∀(i:Nat) (x:Str) (v:V),X.N[i]?=some x->σ[i]?=some (some v)->iF X.env.scope x->∃u,RelV v u/\Look X.env s.heap m x u
 cell:∀x c,X.env.cells.lookup x=some c->∃v,s.heap.IsCell c v
 free:H X.env.locals=none
 lE:∀x c,X.env.cells.lookup x=some c->H c=none
 pin:∀p∈X.pn++pins,s.heap.get? p.1=some p.2/\H p.1=none/\p.1≠X.env.locals/\p.1∉X.fs/\∀v,p.2.data≠.cell v
 aL:dU X.prog X.w H s.heap
 len : σ.length=X.N.length
section
variable {X:Cx}
theorem Cx.Ok.acE (ok:X.Ok)(e:X.base.get? b=some o):b∉X.fs:=λhb=>by
 have:=(ok.jP.mem hb).1
 simp_all
theorem Inv.bs (I:Inv X pins σ H s):∀b o,X.base.get? b=some o->s.heap.get? b=some o/\H b=none:=λb o e=>
 ⟨I.base.keep b o (I.ok.bs b o e).1 (I.ok.bs b o e).2 (I.ok.acE e) (I.ok.vC b o e),I.base.free b o (I.ok.bs b o e).1 (I.ok.bs b o e).2 (I.ok.vC b o e)⟩
theorem Inv.bk (I:Inv X pins σ H s):∀b o,X.base.get? b=some o->s.heap.get? b=some o:=λb o e=>(I.bs b o e).1
theorem Inv.mod (I:Inv X pins σ H s):Mod X.K X.mg X.base:=I.ok.mod
theorem Inv.dw (I:Inv X pins σ H s):X.K.In s.heap:=I.ok.mod.vV.keeps I.bk
theorem Inv.lt (I:Inv X pins σ H s):X.env.locals<s.heap.objs.size:=by obtain⟨_,hn,_⟩:=I.loc;exact hn.lt
theorem Inv.sz (I:Inv X pins σ H s):X.dZ.heap.objs.size<=s.heap.objs.size:=Cs I.ok.above (aeF I.lt)
theorem Inv.acF (I:Inv X pins σ H s){a:adV}(h:s.heap.objs.size<=a):a∉X.fs:=λhb=>by
 obtain⟨_,o,ho,_⟩:=I.ok.jP.mem hb;exact absurd (zd (nt ho) (Cs I.sz h)) (aep _)
theorem Inv.qu (I:Inv X pins σ H s):∀x c,X.env.cells.lookup x=some c->c≠X.env.locals:=λx c e z=>by
 obtain⟨v,o,ho,hd⟩:=I.cell x c e;obtain⟨m,⟨o',es,ep,jB,qw,_⟩,_⟩:=I.loc;rw[z,jB]at ho;cases ho;rw[qw]at hd;cases hd
theorem Inv.jP (I:Inv X pins σ H s):s.heap.FunFrames X.base X.outer:=by
 have all:∀(l),(∀b∈fH l,b∈X.fs)->X.dZ.heap.FunFrames X.base l->s.heap.FunFrames X.base l:=by
  intro l
  induction l with
  |nil=>intro _ _;trivial
  |cons env r ih=>
   intro hs hl;obtain⟨hk,⟨L,o,hf,hn,ho,hd⟩,hr⟩:_:=hl;have hL:=hs L (by unfold fH;rw[ad6,hf];exact WS);obtain⟨sl,e⟩:=I.base.slot L o ho (I.ok.qp L hL) hL λz=>I.ok.zK L z hL
   exact⟨hk,⟨L,_,hf,hn,e,hd⟩,ih (λb hb=>hs b (by unfold fH;rw[ad6,hf];exact Na _ hb)) hr⟩
 exact all X.outer (λ_ hb=>hb) I.ok.jP
theorem Inv.stack (I:Inv X pins σ H s):s.heap.FunFrames X.base X.stack:=by
 obtain e|⟨e,hf⟩:=I.ok.qo
 ·rw[e];exact I.jP
 ·rw[e];obtain⟨m,hn,_⟩:=I.loc;refine .cons (by rw[I.ok.kind];decide) hf hn ?_ I.jP;exact Heap.get?_none_of_le (Cs I.ok.oG I.ok.above)
theorem Inv.uP (I:Inv X pins σ H s):∀b∈fH X.stack,b∈X.env.locals::X.fs:=λb hb=>by
 obtain e|⟨e,hf⟩:=I.ok.qo
 ·simp_all
 ·rw[e]at hb;unfold fH at hb;rw[ad6,hf]at hb;exact hb
theorem Inv.KH (I:Inv X pins σ H s):∀b∈fH X.stack,H b=none:=λb hb=>by
 obtain e|hb:=ff.mp (I.uP b hb)
 ·rw[e];exact I.free
 ·obtain⟨_,o,ho,_⟩:=I.ok.jP.mem hb;exact I.base.free b o ho (I.ok.qp b hb) λz=>I.ok.zK b z hb
theorem Inv.step {ch:List adV}(I:Inv X pins σ H s)(lX:∀b∈ch,(b∈X.ex\/X.dZ.heap.objs.size<=b)/\b≠X.env.locals/\(∀x c,X.env.cells.lookup x=some c->c≠b)/\∀p∈X.pn++pins,p.1≠b)(keep:∀b o,b≠X.env.locals->b∉X.fs->b∉ch->s.heap.get? b=some o->H b=none->h'.get? b=some o)(slot:∀b o,b≠X.env.locals->b∈X.fs->b∉ch->s.heap.get? b=some o->H b=none->∃sl,h'.get? b=some {o with slots:=sl})(free:∀b o,b∉ch->s.heap.get? b=some o->H b=none->H' b=none)(there:∀b o,b∉ch->s.heap.get? b=some o->∃o',h'.get? b=some o')(lK:∀b xs,H b=some (.tup xs)->H' b=some (.tup xs))(ky:∀b o u,H b=some (.dM o u)->H' b=some (.dM o u))(lL:∀b ps,H b=some (.qm ps)->∃more,H' b=some (.qm (ps++more)))(ns:∀m,s.heap.Ns X.env.locals m->h'.Ns X.env.locals m)(aL:dU X.prog X.w H' h')(hg:AllBare g'):
  Inv X pins σ H' {s with heap:=h',gens:=g',drawn:=d',toks:=t'}:=by
 have QQ:∀b o,X.dZ.heap.get? b=some o->b≠X.env.locals:=λb o e=>AN (zd (nt e) I.ok.above)
 have Aa:∀b o,X.dZ.heap.get? b=some o->b∉X.ex->b∉ch:=λb o e hx hb=>by
  obtain z|z:=(lX b hb).1
  ·exact hx z
  ·exact absurd (zd (nt e) z) (aep _)
 have cellK:∀x c,X.env.cells.lookup x=some c->∀v,s.heap.IsCell c v->h'.IsCell c v:=λx c e v ⟨o,ho,hd⟩=>by
  have vX:=λz=>(lX c z).2.2.1 x c e rfl
  by_cases hc:c∈X.fs
  ·obtain⟨sl,q⟩:=slot c o (I.qu x c e) hc vX ho (I.lE x c e);exact⟨_,q,hd⟩
  ·exact⟨o,keep c o (I.qu x c e) hc vX ho (I.lE x c e),hd⟩
 refine⟨I.ok,I.os,hg,⟨λb o e n hb hx=>?_,λb o e n hb hx=>?_,λb o e n hx=>?_,λb o e hx=>?_,λb xs e=>lK b xs (I.base.lK b xs e),λb o xs e=>ky b o xs (I.base.ky b o xs e),λb ps e=>?_⟩,?_,λx c e=>?_,?_,λx c e=>?_,λp hp=>?_,aL,I.len⟩
 ·exact keep b o (QQ b o e) hb (Aa b o e hx) (I.base.keep b o e n hb hx) (I.base.free b o e n hx)
 ·obtain⟨sl,e1⟩:=I.base.slot b o e n hb hx;obtain⟨sl',e2⟩:=slot b _ (QQ b o e) hb (Aa b o e hx) e1 (I.base.free b o e n hx);exact⟨sl',e2⟩
 ·obtain⟨o',e1⟩:=I.base.there b o e hx;exact free b o' (Aa b o e hx) e1 (I.base.free b o e n hx)
 ·obtain⟨o',e1⟩:=I.base.there b o e hx;exact there b o' (Aa b o e hx) e1
 ·obtain⟨m1,e1⟩:=I.base.lL b ps e;obtain⟨m2,e2⟩:=lL b _ e1;exact⟨m1++m2,by rw[e2,Array.append_assoc]⟩
 ·obtain⟨m,hn,hl⟩:=I.loc;refine⟨m,ns m hn,λi x v e1 e2 e3=>?_⟩;obtain⟨u,r,l⟩:=hl i x v e1 e2 e3;refine⟨u,r,?_⟩;obtain l|⟨k,c,e,z⟩:_:=l
  ·exact .inl l
  ·exact .inr ⟨k,c,e,cellK x c e _ z⟩
 ·obtain⟨v,z⟩:=I.cell x c e;exact⟨v,cellK x c e v z⟩
 ·obtain⟨m,⟨o,_,_,ho,_⟩,_⟩:=I.loc;exact free _ o (λz=>(lX _ z).2.1 rfl) ho I.free
 ·obtain⟨v,o,ho,hd⟩:=I.cell x c e;exact free c o (λz=>(lX c z).2.2.1 x c e rfl) ho (I.lE x c e)
 ·obtain⟨e,n,ne,nf,d⟩:_:=I.pin p hp;have vX:=λz=>(lX p.1 z).2.2.2 p hp rfl
  exact⟨keep p.1 p.2 ne nf vX e n,free p.1 p.2 vX e n,ne,nf,d⟩
theorem Inv.un (I:Inv X pins σ H s)(u:Un X.fs [] H H' s.heap h')(aL:dU X.prog X.w H' h'):Inv X pins σ H' {s with heap:=h',toks:=t'}:=by
 obtain⟨m,⟨o,es,ep,ho,r⟩,_⟩:_:=id I.loc;obtain⟨sl,hL⟩:=u.any ho I.free 'Y';exact I.step (g':=s.gens) (d':=s.drawn) (ch:=[]) (λ_ z=>nomatch z) (λb o _ hb _ e n=>u.keep b o e n hb 'Y') (λb o _ hb _ e n=>u.slot b o e n hb 'Y') (λb o _ e n=>u.free b o e n 'Y') (λb o _ e=>u.there b o e 'Y') u.lK u.ky u.lL (λm' hm=>by
  obtain⟨o',oH,Gw,jB,r'⟩:_:=hm;rw[ho]at jB;cases jB;exact⟨_,oH,Gw,hL,r'⟩) aL I.bare
theorem Inv.call (I:Inv X pins σ H s)(u:Un (fH X.stack) ch H H' s.heap h')(aL:dU X.prog X.w H' h')(hg:AllBare g')(lX:∀b∈ch,(b∈X.ex\/X.dZ.heap.objs.size<=b)/\b≠X.env.locals/\(∀x c,X.env.cells.lookup x=some c->c≠b)/\∀p∈X.pn++pins,p.1≠b):
  Inv X pins σ H' {s with heap:=h',gens:=g',drawn:=d',toks:=t'}:=by
 obtain⟨m,⟨o,es,ep,ho,r⟩,_⟩:_:=id I.loc;obtain⟨sl,hL⟩:=u.any ho I.free λz=>(lX _ z).2.1 rfl
 exact I.step lX (λb o hL hb hc e n=>u.keep b o e n (λz=>(ff.mp (I.uP b z)).elim hL hb) hc) (λb o _ _ hc e n=>u.any e n hc) (λb o hc e n=>u.free b o e n hc) (λb o hc e=>u.there b o e hc) u.lK u.ky u.lL (λm' hm=>by
  obtain⟨o',oH,Gw,jB,r'⟩:_:=hm;rw[ho]at jB;cases jB;exact⟨_,oH,Gw,hL,r'⟩) aL hg
theorem Inv.turned (I:Inv X pins σ H s)(k:∀b o,b≠it->s.heap.get? b=some o->h'.get? b=some o)(hn:H it=none)(hL:it≠X.env.locals)(h1:it∈X.ex\/X.dZ.heap.objs.size<=it)(h2:∀x c,X.env.cells.lookup x=some c->c≠it)(h3:∀p∈X.pn++pins,p.1≠it):Inv X pins σ H {s with heap:=h',toks:=t'}:=by
 refine I.step (g':=s.gens) (d':=s.drawn) (ch:=[it]) (λb hb=>?_) (λb o _ _ hc e _=>k b o (λz=>hc (by simp[z])) e) (λb o _ _ hc e _=>⟨o.slots,k b o (λz=>hc (by simp[z])) e⟩) (λ_ _ _ _ n=>n)
  (λb o hc e=>⟨o,k b o (λz=>hc (by simp[z])) e⟩) (λ_ _ e=>e) (λ_ _ _ e=>e) (λb ps e=>⟨#[],by assumption⟩) (λm hm=>?_) (λb u e=>?_) I.bare
 ·grind
 ·obtain⟨o,es,ep,ho,r⟩:=hm;exact⟨o,es,ep,k _ o (ad7 hL) ho,r⟩
 ·refine(I.aL b u e).ni (λc v hc q=>k c v ?_ q) (λ_ q=>q) λ_ _ q=>q
  lia
theorem Inv.tok (I:Inv X pins σ H s)(t:Nat):Inv X pins σ H {s with toks:=t}:=I.un (h':=s.heap) (t':=t) Un.refl I.aL
theorem Inv.kept (I:Inv X pins σ H s)(k:∀b u,s.heap.get? b=some u->h'.get? b=some u):Inv X pins σ H {s with heap:=h',toks:=t'}:=I.un (Un.kept k) (I.aL.kept k)
theorem Inv.laid {a:adV}(I:Inv X pins σ H s)(k:∀b u,s.heap.get? b=some u->h'.get? b=some u)(hp:s.heap.objs.size<=a)(new:iw X.prog X.w (upd H a o) h' a o):
  Inv X pins σ (upd H a o) {s with heap:=h',toks:=t'}:=I.un (Un.laid k hp (I.aL.fresh hp)) (I.aL.laid k hp new)
theorem Inv.write (I:Inv X pins σ H s)(mu:zY (H x))(he:e=x\/H e=some (.own x))(k:∀b u,b≠e->s.heap.get? b=some u->h'.get? b=some u)(vU:∃u,h'.get? e=some u)(new:iw X.prog X.w (upd H x o) h' x o):Inv X pins σ (upd H x o) {s with heap:=h',toks:=t'}:=I.un (Un.write mu he k vU) (I.aL.write mu he k vU new)
theorem Inv.KI (I:Inv X pins σ H s)(h:∀p∈abU,s.heap.get? p.1=some p.2/\H p.1=none/\p.1≠X.env.locals/\p.1∉X.fs/\∀v,p.2.data≠.cell v):Inv X abU σ H s:=
 ⟨I.ok,I.os,I.bare,I.base,I.loc,I.cell,I.free,I.lE,λp hp=>(qr.mp hp).elim (λz=>I.pin p (xy _ z)) (h p),I.aL,I.len⟩
theorem JS {N:List Str}(hN:N.Nodup){j:Nat}(a:N[i]?=some x)(b:N[j]?=some x):i=j:=by
 obtain⟨h1,e1⟩:=gz.mp a;obtain⟨h2,e2⟩:=gz.mp b;exact(List.getElem_inj hN).mp (e1.trans e2.symm)
theorem Jt (I:Inv X pins σ H s)(hN:X.N.Nodup)(hi:X.N[i]?=some x)(hx:Loc X.env.scope x)(r:RelV v u)(h:∀s',Inv X pins (σ.set i (some v)) H s'->(∃a,Heap.SameBut a s.heap s'.heap/\(a=X.env.locals\/X.env.cells.lookup x=some a))->Q () s')(hf:X.fn x=true\/X.env.scope.names.lookup x=some .local:=by first|exact .inl rfl|exact .inr rfl|assumption):wpAny M A (storeName X.env x u) Q E s:=by
 obtain⟨m,hn,hl⟩:_:=id I.loc;have acG:(X.env.scope.kind==.class||(X.env.scope.kind==.module&&X.env.locals != X.env.globals))=false:=by rw[I.ok.kind];rfl
 have PX:i < σ.length:=by rw[I.len];exact(gz.mp hi).1
 have qu:=I.qu;have tracked:∀{a:adV} {h':Heap},(∃o,s.heap.get? a=some o/\H a=none)->Heap.SameBut a s.heap h'->dU X.prog X.w H h':=λ{a h'} ha hs b ob e=>by
  obtain⟨_,_,oj⟩:_:=ha;refine(I.aL b ob e).ni (λc w' hc q=>(hs.2 c ?_).trans q) (λ_ q=>q) λ_ _ q=>q
  rintro rfl;obtain rfl|hc:=hc
  ·rw[oj]at e;cases e
  ·rw[oj]at hc;cases hc
 obtain hk|hk:=hx
 ·refine wpAny_storeName_local hk hn (λh' hn' hs=>?_) acG;obtain⟨oL,_,_,oI,_⟩:_:=id hn;refine h _ ⟨I.ok,I.os,I.bare,⟨λb o e n hb hx=>?_,λb o e n hb hx=>?_,I.base.free,λb o e hx=>?_,I.base.lK,I.base.ky,I.base.lL⟩,⟨_,hn',λj y v' e1 e2 e3=>?_⟩,λy c e=>?_,I.free,I.lE,λp hp=>?_,tracked ⟨oL,oI,I.free⟩ hs,by simpa using I.len⟩ ⟨_,hs,.inl rfl⟩
  ·exact(hs.2 b (AN (zd (nt e) I.ok.above))).trans (I.base.keep b o e n hb hx)
  ·obtain⟨sl,e1⟩:=I.base.slot b o e n hb hx;exact⟨sl,(hs.2 b (AN (zd (nt e) I.ok.above))).trans e1⟩
  ·obtain⟨o',e1⟩:=I.base.there b o e hx;exact⟨o',(hs.2 b (AN (zd (nt e) I.ok.above))).trans e1⟩
  ·by_cases hj:j=i
   ·subst hj;rw[hi]at e1;cases e1;rw[aab PX]at e2;cases e2;exact⟨u,r,.inl ⟨hk,'Y'⟩⟩
   ·rw[EU (ad7 hj)]at e2;obtain⟨u',r',q⟩:_:=hl j y v' e1 e2 e3;refine⟨u',r',?_⟩;obtain⟨k,e⟩|⟨k,c,e,z⟩:_:=q
    ·refine .inl ⟨k,?_⟩;have:y≠x:=λe=>hj (JS hN e1 (e▸hi))
     simp[this,e]
    ·exact .inr ⟨k,c,e,z.sameBut hs (qu y c e)⟩
  ·obtain⟨w',z⟩:=I.cell y c e;exact⟨w',z.sameBut hs (qu y c e)⟩
  ·obtain⟨e,n,ne,nf,d⟩:_:=I.pin p hp;exact⟨(hs.2 p.1 ne).trans e,n,ne,nf,d⟩
 ·have Gy:X.fn x=true:=by
   obtain z|z:=hf
   ·exact z
   ·rw[z]at hk;cases hk
  obtain⟨c,hc⟩:=I.ok.has x (.inl hk);obtain⟨w',z⟩:=I.cell x c hc;refine wpAny_storeName_cell I.ok.kind hk hc z (λh' kJ hs=>?_);obtain⟨oc,QR,acH⟩:=id z;refine h {s with heap:=h'} ⟨I.ok,I.os,I.bare,⟨λb o e n hb hx=>?_,λb o e n hb hx=>?_,I.base.free,λb o e hx=>?_,I.base.lK,I.base.ky,I.base.lL⟩,⟨m,hn.sameBut hs (ad7 (qu x c hc)),λj y v' e1 e2 e3=>?_⟩,λy c' e=>?_,I.free,I.lE,λp hp=>?_,tracked ⟨oc,QR,I.lE x c hc⟩ hs,by simpa using I.len⟩ ⟨c,hs,.inr hc⟩
  ·exact(hs.2 b (AN (zd (nt e) (I.ok.vW x c Gy hc)))).trans (I.base.keep b o e n hb hx)
  ·obtain⟨sl,e1⟩:=I.base.slot b o e n hb hx;exact⟨sl,(hs.2 b (AN (zd (nt e) (I.ok.vW x c Gy hc)))).trans e1⟩
  ·obtain⟨o',e1⟩:=I.base.there b o e hx;exact⟨o',(hs.2 b (AN (zd (nt e) (I.ok.vW x c Gy hc)))).trans e1⟩
  ·by_cases hj:j=i
   ·subst hj;rw[hi]at e1;cases e1;rw[aab PX]at e2;cases e2;exact⟨u,r,.inr ⟨.inl hk,c,hc,kJ⟩⟩
   ·rw[EU (ad7 hj)]at e2;obtain⟨u',r',q⟩:=hl j y v' e1 e2 e3;refine⟨u',r',?_⟩;obtain q|⟨k,c',e,z'⟩:_:=q
    ·exact .inl q
    ·refine .inr ⟨k,c',e,z'.sameBut hs ?_⟩;rintro rfl;exact hj (JS hN e1 (I.ok.inj _ _ _ e hc▸hi))
  ·by_cases QS:c'=c
   ·subst QS;exact⟨_,kJ⟩
   ·obtain⟨w2,z2⟩:=I.cell y c' e;exact⟨w2,z2.sameBut hs QS⟩
  ·obtain⟨e,n,ne,nf,d⟩:_:=I.pin p hp;refine⟨(hs.2 p.1 ?_).trans e,n,ne,nf,d⟩;intro q;rw[q,QR]at e;have q':=FF e;exact d w' (by rw[<- q'];exact acH)
theorem xY (I:Inv X pins σ H s)(hN:X.N.Nodup)(hi:X.N[i]?=some x)(hx:Loc X.env.scope x)(r:RelV v u)(h:∀s',Inv X pins (σ.set i (some v)) H s'->Q () s')(hf:X.fn x=true\/X.env.scope.names.lookup x=some .local:=by first|exact .inl rfl|exact .inr rfl|assumption):wpAny M A (storeName X.env x u) Q E s:=
 Jt I hN hi hx r (λs' I' _=>h s' I') hf
theorem Inv.OJ (I:Inv X pins σ H s)(ho:s'.os=s.os)(u:Un (fH X.stack) ch H H' s.heap s'.heap)(aL:dU X.prog X.w H' s'.heap)(hg:AllBare s'.gens)(lX:∀b∈ch,(b∈X.ex\/X.dZ.heap.objs.size<=b)/\b≠X.env.locals/\(∀x c,X.env.cells.lookup x=some c->c≠b)/\∀p∈X.pn++pins,p.1≠b):Inv X pins σ H' s':=by
 obtain⟨h',g',d',t',o'⟩:=s';have e:=ho;subst e;exact I.call (g':=g') (t':=t') (d':=d') u aL hg lX
end
abbrev XK:=vn->Option adV->Hp->Prop
abbrev St:=List (Option V)
abbrev VK:=V->Hp->Prop
abbrev TE:=St->Hp->VK->Prop
abbrev TT:=St->Hp->(Bool->Hp->Prop)->Prop
abbrev TA:=St->Hp->(List V->Hp->Prop)->Prop
structure Ends where
 nx:St->Hp->Prop
 rt:VK
 bk:St->Hp->Prop:=λ_ _=>False
 ct:St->Hp->Prop:=λ_ _=>False
abbrev TS:=Ends->St->Hp->Prop
def EP (X:Cx)(pins:List (adV×Obj))(σ:St)(Q:VK)(u:vn)(s':adX):Prop:=∃v H',Inv X pins σ H' s'/\RelV v u/\Q v H'
def TP (X:Cx)(pins:List (adV×Obj))(σ:St)(Q:Bool->Hp->Prop)(b:Bool)(s':adX):Prop:=∃H',Inv X pins σ H' s'/\Q b H'
def AP (X:Cx)(pins:List (adV×Obj))(σ:St)(Q:List V->Hp->Prop)(us:List vn)(s':adX):Prop:=∃vs H',Inv X pins σ H' s'/\Vals vs us/\Q vs H'
def SP (X:Cx)(pins:List (adV×Obj))(D:Ends)(f:Flow)(s':adX):Prop:=
 match f with
 | .next=>∃aD H',Inv X pins aD H' s'/\D.nx aD H'
 | .brk=>∃aD H',Inv X pins aD H' s'/\D.bk aD H'
 | .cont=>∃aD H',Inv X pins aD H' s'/\D.ct aD H'
 | .ret u=>∃v aD H',Inv X pins aD H' s'/\RelV v u/\D.rt v H'
def PE (X:Cx)(e:Expr)(t:TE):Prop:=
 ∀(pins:List (adV×Obj)) (s:adX) (σ:St) (H:Hp) (Q:VK),Inv X pins σ H s->t σ H Q->wpAny (model X.prog X.w) X.A (eval e X.env) (EP X pins σ Q) X.xe s
def PT (X:Cx)(e:Expr)(t:TT):Prop:=
 ∀(pins:List (adV×Obj)) (s:adX) (σ:St) (H:Hp) (Q:Bool->Hp->Prop),Inv X pins σ H s->t σ H Q->wpAny (model X.prog X.w) X.A (isTrue e X.env (eval e X.env)) (TP X pins σ Q) X.xe s
def PW (X:Cx)(e:Expr)(t:TT):Prop:=
 ∀(whole:Sem vn) (pins:List (adV×Obj)) (s:adX) (σ:St) (H:Hp) (Q:Bool->Hp->Prop),Inv X pins σ H s->t σ H Q->wpAny (model X.prog X.w) X.A (isTrue e X.env whole) (TP X pins σ Q) X.xe s
theorem PW.pt (h:PW X e t):PT X e t:=h _
def PA (X:Cx)(es:List Expr)(t:TA):Prop:=
 ∀(pos:Pos) (pins:List (adV×Obj)) (s:adX) (σ:St) (H:Hp) (Q:List V->Hp->Prop),Inv X pins σ H s->t σ H Q->wpAny (model X.prog X.w) X.A (spliced (backTo pos (starEach es X.env))) (AP X pins σ Q) X.xe s
def PS (X:Cx)(st:age)(t:TS):Prop:=
 ∀(pins:List (adV×Obj)) (s:adX) (σ:St) (H:Hp) (D:Ends),Inv X pins σ H s->t D σ H->wpAny (model X.prog X.w) X.A (exec st X.env) (SP X pins D) X.xe s
def gC (X:Cx)(st:List age)(t:TS):Prop:=
 ∀(pins:List (adV×Obj)) (s:adX) (σ:St) (H:Hp) (D:Ends),Inv X pins σ H s->t D σ H->wpAny (model X.prog X.w) X.A (execs st X.env) (SP X pins D) X.xe s
theorem aE {t:Sem α}{Q Q' : α->adX->Prop}(h:wpAny M A t Q E s)(hQ:∀a s,Q a s->Q' a s):wpAny M A t Q' E s:=afn h hQ λ_ _ x=>x
section
variable {X:Cx}
def dC (i:Nat):TE:=λσ H Q=>∃v,σ[i]?=some (some v)/\Q v H
def tC (v:V):TE:=λ_ H Q=>Q v H
theorem kj {pos:Pos}(hN:X.N[i]?=some x)(hv:iF X.env.scope x)(hd:(x==("__debug__":Str))=false:=by decide)(jU:(x==("__classdict__":Str))=false:=by decide):PE X (.Name x pos) (dC i):=by
 intro pins s σ H Q I h;obtain⟨v,e,h⟩:_:=h;obtain⟨m,hn,hl⟩:_:=I.loc;obtain⟨u,r,l⟩:_:=hl i x v hN e hv;have fin:EP X pins σ Q u s:=⟨v,H,I,r,h⟩
 obtain⟨hk,hm⟩|⟨hk,c,hc,OL⟩:_:=l
 ·exact wpAny_Name (wpAny_loadName_local I.ok.kind hk hn hm fin) hd
 ·obtain hk|hk:=hk
  ·exact wpAny_Name (wpAny_loadName_cell I.ok.kind hk hc OL fin) hd
  ·exact wpAny_Name (wpAny_loadName_free I.ok.kind hk hc OL fin jU) hd
theorem MA:PE X (.Constant (.int i) j pos) (tC (.int i)):=λ_ _ _ H _ I h=>wpAny_Constant_int ⟨.int i,H,I.tok _,⟨_,rfl⟩,h⟩
theorem abV:PE X (.Constant (.bool b) j pos) (tC (.bl b)):=λ_ _ _ H _ I h=>Constant_bool ⟨.bl b,H,I,rfl,h⟩
theorem MB:PE X (.Constant .none j pos) (tC .aW):=λ_ _ _ H _ I h=>Constant_none ⟨.aW,H,I,rfl,h⟩
theorem MC:PE X (.Constant (.str x) j pos) (tC (.str x)):=λ_ _ _ H _ I h=>Calls.Constant_str ⟨.str x,H,I.tok _,⟨_,rfl⟩,h⟩
def Gl (X:Cx)(x:Str):Prop:=X.env.kindOf x=some .globalImplicit
theorem C1 {σ:St}(I:Inv X pins σ H s)(hg:Gl X x)(hm:X.mg x=some u)(h:Q u s)(hd:(x==("__debug__":Str))=false:=by decide):wpAny (model X.prog X.w) X.A (eval (.Name x pos) X.env) Q E s:=
 Calls.Name_function_global I.ok.kind hg (Calls.loadGlobal_global (by rw[I.ok.glob];exact I.mod.glob.keeps I.bk) hm h) hd
theorem mU {E:vn->adX->Prop}{σ:St}{pos:Pos}(I:Inv X pins σ H s)(hg:Gl X x)(hm:X.mg x=none)(hv:bootBuiltins x=some u)(h:Q u s)(hn:x ≠ "__name__":=by decide)(hd:(x==("__debug__":Str))=false:=by decide):wpAny (model X.prog X.w) X.A (eval (.Name x pos) X.env) Q E s:=by
 obtain⟨mb,h1,h2⟩:_:=I.mod.blt;exact Calls.Name_function_global I.ok.kind hg (Calls.loadGlobal_builtin (by rw[I.ok.glob];exact I.mod.glob.keeps I.bk) hm (by rw[I.ok.blt];exact h1.keeps I.bk) ((h2 x hn).trans hv) h) hd
theorem YV (hg:Gl X x)(hm:X.mg x=some u)(r:RelV v u)(hd:(x==("__debug__":Str))=false:=by decide):PE X (.Name x pos) (tC v):=
 λ_ _ _ H _ I h=>C1 I hg hm ⟨v,H,I,r,h⟩ hd
theorem YW {pos:Pos}(hg:Gl X x)(hm:X.mg x=none)(hv:bootBuiltins x=some u)(r:RelV v u)(hn:x ≠ "__name__":=by decide)(hd:(x==("__debug__":Str))=false:=by decide):PE X (.Name x pos) (tC v):=
 λ_ _ _ H _ I h=>mU I hg hm hv ⟨v,H,I,r,h⟩ hn hd
def tB (t:TE):TT:=λσ H Q=>t σ H λx H1=>∃c,x=.bl c/\Q c H1
theorem aaJ (h:PE X e t)(he:∀whole,isTrue e X.env whole=(do let v<-whole;standAt e.pos;holding [v] (truthy v)):=by intro _;rfl):PT X e (tB t):=by
 intro pins s σ H Q I hw;refine isTrue_plain (aE (h pins s σ H _ I hw) λv s1 z9=>?_) (he _);obtain⟨x,H1,I1,r1,q1⟩:=z9;obtain⟨d,rfl,q⟩:_:=q1;cases r1;exact YO ⟨H1,I1,q⟩
def vD (t u:TT):TT:=λσ H Q=>t σ H λc H1=>if c=true then u σ H1 Q else Q false H1
def Gz (t u:TT):TT:=λσ H Q=>t σ H λc H1=>if c=true then Q true H1 else u σ H1 Q
def PY (t:TT):TT:=λσ H Q=>t σ H λc H1=>Q (!c) H1
theorem KJ (ha:PT X a tA):PW X (.BoolOp .And [a] pos) tA:=by
 intro wh pins s σ H Q I h;refine isTrue_and (aE (ha pins s σ H Q I h) λc s1 e=>?_);cases c with
 |true=>exact isTrue_and_nil e
 |false=>exact e
theorem aaK (ha:PT X a tA):PW X (.BoolOp .Or [a] pos) tA:=by
 intro wh pins s σ H Q I h;refine isTrue_or (aE (ha pins s σ H Q I h) λc s1 e=>?_);cases c with
 |false=>exact isTrue_or_nil e
 |true=>exact e
theorem yH (ha:PT X a tA)(hb:PW X (.BoolOp .And (b::rest) pos) GA):PW X (.BoolOp .And (a::b::rest) pos) (vD tA GA):=by
 intro wh pins s σ H Q I h;refine isTrue_and (aE (ha pins s σ H _ I h) λc s1 z9=>?_);obtain⟨H1,I1,q1⟩:=z9;cases c with
 |true=>exact hb wh pins s1 σ H1 Q I1 q1
 |false=>exact⟨H1,I1,q1⟩
theorem OM (ha:PT X a tA)(hb:PW X (.BoolOp .Or (b::rest) pos) GA):PW X (.BoolOp .Or (a::b::rest) pos) (Gz tA GA):=by
 intro wh pins s σ H Q I h;refine isTrue_or (aE (ha pins s σ H _ I h) λc s1 z9=>?_);obtain⟨H1,I1,q1⟩:=z9;cases c with
 |true=>exact⟨H1,I1,q1⟩
 |false=>exact hb wh pins s1 σ H1 Q I1 q1
theorem aaL (ha:PT X a tA):PT X (.UnaryOp .Not a pos) (PY tA):=by
 intro pins s σ H Q I h;exact isTrue_not (ha pins s σ H (λc H1=>Q (!c) H1) I h)
def EH (ta tb:TE):TE:=λσ H Q=>ta σ H λx H1=>∃c,x=.bl c/\if c=true then tb σ H1 Q else Q (.bl false) H1
def FK (ta tb:TE):TE:=λσ H Q=>ta σ H λx H1=>∃c,x=.bl c/\if c=true then Q (.bl true) H1 else tb σ H1 Q
def OO (ta:TE):TE:=λσ H Q=>ta σ H λx H1=>∃c,x=.bl c/\Q (.bl (!c)) H1
theorem aaM (h:PE X a t):PE X (.BoolOp op [a] pos) t:=λpins s σ H Q I hw=>BoolOp_one (h pins s σ H Q I hw)
theorem MD (ha:PE X a ta)(hb:PE X (.BoolOp .And (b::rest) pos) tb):PE X (.BoolOp .And (a::b::rest) pos) (EH ta tb):=by
 intro pins s σ H Q I h;refine BoolOp_and (aE (ha pins s σ H _ I h) λv s1 z9=>?_);obtain⟨x,H1,I1,r1,q1⟩:=z9;obtain⟨c,rfl,q1⟩:_:=q1;cases r1;refine YO ?_;cases c with
 |true=>exact hb pins s1 σ H1 Q I1 q1
 |false=>exact⟨.bl false,H1,I1,rfl,q1⟩
theorem OQ (ha:PE X a ta)(hb:PE X (.BoolOp .Or (b::rest) pos) tb):PE X (.BoolOp .Or (a::b::rest) pos) (FK ta tb):=by
 intro pins s σ H Q I h;refine BoolOp_or (aE (ha pins s σ H _ I h) λv s1 z9=>?_);obtain⟨x,H1,I1,r1,q1⟩:=z9;obtain⟨c,rfl,q1⟩:_:=q1;cases r1;refine YO ?_;cases c with
 |false=>exact hb pins s1 σ H1 Q I1 q1
 |true=>exact⟨.bl true,H1,I1,rfl,q1⟩
theorem aaN (ha:PE X a ta):PE X (.UnaryOp .Not a pos) (OO ta):=by
 intro pins s σ H Q I h;refine UnaryOp_ (aE (ha pins s σ H _ I h) λv s1 z9=>?_);obtain⟨x,H1,I1,r1,q1⟩:=z9;obtain⟨c,rfl,q1⟩:_:=q1;cases r1;exact not_of (YO ⟨.bl (!c),H1,I1,rfl,q1⟩)
def GB (t:TT)(ta tb:TE):TE:=λσ H Q=>t σ H λc H1=>if c=true then ta σ H1 Q else tb σ H1 Q
theorem Cu (hc:PT X c tA)(ha:PE X a ta)(hb:PE X b tb):PE X (.IfExp c a b pos) (GB tA ta tb):=by
 intro pins s σ H Q I h;refine wpAny_IfExp (aE (hc pins s σ H _ I h) λd s1 z9=>?_);obtain⟨H1,I1,q1⟩:=z9;cases d with
 |true=>exact ha pins s1 σ H1 Q I1 q1
 |false=>exact hb pins s1 σ H1 Q I1 q1
end
def aM (K:Frag)(H:Hp)(a:adV)(xs:List V):Prop:=
 Rd H a (.lst xs) \/
  ∃(o:Obj) (its:Array vn) (n:Nat),K.lookup a=some o/\o.cls=.type "list"/\o.dict=none/\o.data=.seq its n/\its.size<=sizeLine/\Vals xs its.toList
def cS (K:Frag)(H:Hp)(a:adV)(xs:List V):Prop:=
 Rd H a (.tup xs) \/
  ∃(o:Obj) (its:Array vn) (n:Nat),K.lookup a=some o/\o.cls=.type "tuple"/\o.data=.seq its n/\its.size<=sizeLine/\Vals xs its.toList
def acI:vn->Option V
 | .none=>some .aW
 | .bool b=>some (.bl b)
 | .int i _=>some (.int i)
 | .str x _=>some (.str x)
 | .bytes b _=>some (.jA b)
 | .float b _=>some (.oF b)
 | .ref a=>some (.ref a)
 | .type n=>some (.ty n)
 |_=>none
theorem RelV.abs (r:RelV x u):acI u=some x:=by
 cases x with
 |aW=>cases r;rfl
 |bl _=>cases r;rfl
 |int _=>obtain⟨t,rfl⟩:=r;rfl
 |str _=>obtain⟨t,rfl⟩:=r;rfl
 |jA _=>obtain⟨t,rfl⟩:=r;rfl
 |oF _=>obtain⟨t,rfl⟩:=r;rfl
 |ref _=>cases r;rfl
 |ty _=>cases r;rfl
theorem RelV.inj {x y:V}{u:vn}(r:RelV x u)(q:RelV y u):x=y:=FF (r.abs.symm.trans q.abs)
theorem Vals.inj:∀{xs ys:List V} {us:List vn},Vals xs us->Vals ys us->xs=ys
 |_,_,_,.nil,.nil=>rfl
 |_,_,_,.cons r t,.cons r' t'=>by rw[r.inj r',Vals.inj t t']
section
variable {σ:St}
theorem aM.of {K:Frag}(h:H a=some (.lst xs)):aM K H a xs:=.inl (.inl h)
theorem cS.of {K:Frag}(h:H a=some (.tup xs)):cS K H a xs:=.inl (.inl h)
theorem Inv.list (I:Inv X pins σ H s)(h:aM X.K H a xs):∃its,Vals xs its/\PlainL s.heap a its.toArray/\xs.length<=sizeLine:=by
 obtain h|⟨o,its,n,hk,hc,hd,hs,hz,r⟩:_:=h
 ·obtain⟨z,its,n,r,e⟩:_:=h.ok I.aL;exact⟨its,r,⟨_,n,e,rfl,rfl,rfl⟩,z⟩
 ·refine⟨its.toList,r,⟨o,n,I.dw a o hk,hc,hd,'Z'⟩,?_⟩;have e:=r.length
  simp_all
theorem Inv.tuple (I:Inv X pins σ H s)(h:cS X.K H a xs):∃its,Vals xs its/\IsTup s.heap a its.toArray/\xs.length<=sizeLine:=by
 obtain h|⟨o,its,n,hk,hc,hs,hz,r⟩:_:=h
 ·obtain⟨z,its,r,p⟩:_:=h.ok I.aL
  grind
 ·refine⟨its.toList,r,⟨o,I.dw a o hk,hc,n,'Z'⟩,?_⟩;have e:=r.length
  simp_all
theorem Inv.JT (I:Inv X pins σ H s)(h:aM X.K H a xs)(h':aM X.K H a ys):xs=ys:=by
 obtain⟨its,r,⟨o,n,e,_,_,d⟩,_⟩:_:=I.list h;obtain⟨its',r',⟨o',n',e',_,_,d'⟩,_⟩:_:=I.list h';rw[e]at e';cases e';rw[d]at d'
 injection d' with d1 _
 have:its=its':=by simpa using congrArg Array.toList d1
 subst this;exact r.inj r'
theorem Inv.WN (I:Inv X pins σ H s)(h:cS X.K H a xs)(h':cS X.K H a ys):xs=ys:=by
 obtain⟨its,r,⟨o,e,_,n,d⟩,_⟩:_:=I.tuple h;obtain⟨its',r',⟨o',e',_,n',d'⟩,_⟩:_:=I.tuple h';rw[e]at e';cases e';rw[d]at d'
 injection d' with d1 _
 have:its=its':='J'
 subst this;exact r.inj r'
end
abbrev Cx.jq (X:Cx)(E:vn->adX->Prop):Cx:={X with xe:=E}
abbrev Cx.vY (X:Cx):Cx:=X.jq λ_ _=>False
theorem Cx.Ok.jq {X:Cx}(ok:X.Ok)(E:vn->adX->Prop):(X.jq E).Ok:=
 ⟨ok.mod,ok.kind,ok.glob,ok.blt,ok.above,ok.inj,ok.has,ok.vW,ok.hd,ok.frames,ok.qo,ok.QP,ok.bs,ok.oG,ok.vC,ok.zK,ok.jP,ok.qp⟩
theorem Cx.Ok.nY {X:Cx}(ok:(X.jq E).Ok):X.Ok:=
 ⟨ok.mod,ok.kind,ok.glob,ok.blt,ok.above,ok.inj,ok.has,ok.vW,ok.hd,ok.frames,ok.qo,ok.QP,ok.bs,ok.oG,ok.vC,ok.zK,ok.jP,ok.qp⟩
section
variable {σ:St}
theorem Inv.jq (I:Inv X pins σ H s)(E:vn->adX->Prop):Inv (X.jq E) pins σ H s:=⟨I.ok.jq E,I.os,I.bare,I.base,I.loc,I.cell,I.free,I.lE,I.pin,I.aL,I.len⟩
theorem Inv.nY (I:Inv (X.jq E) pins σ H s):Inv X pins σ H s:=⟨I.ok.nY,I.os,I.bare,I.base,I.loc,I.cell,I.free,I.lE,I.pin,I.aL,I.len⟩
theorem SP.nY (h:SP (X.jq E) pins D f s'):SP X pins D f s':=by
 cases f with
 |next=>obtain⟨aD,H',I,q⟩:=h;exact⟨aD,H',I.nY,q⟩
 |brk=>obtain⟨aD,H',I,q⟩:=h;exact⟨aD,H',I.nY,q⟩
 |cont=>obtain⟨aD,H',I,q⟩:=h;exact⟨aD,H',I.nY,q⟩
 |ret u=>obtain⟨v,aD,H',I,r,q⟩:=h;exact⟨v,aD,H',I.nY,r,q⟩
theorem gC.vY {st:List age}(h:gC X.vY st t):gC X st t:=λpins s σ H D I hw=>
 afn (h pins s σ H D (I.jq _) hw) (λ_ _ q=>q.nY) λ_ _ z=>False.elim z
end
section
variable {st:age}
def EI:TS:=λD σ H=>D.nx σ H
def eQ (t u:TS):TS:=λD σ H=>t {D with nx:=u D} σ H
theorem C2:gC X [] EI:=λ_ _ σ H _ I h=>afp ⟨σ,H,I,h⟩
theorem dr (h1:PS X st t)(h2:gC X rest u):gC X (st::rest) (eQ t u):=by
 intro pins s σ H D I h;refine wpAny_execs_cons (aE (h1 pins s σ H {D with nx:=u D} I h) λf s1 q=>?_);cases f with
 |next=>
  obtain⟨aD,H',I',q⟩:_:=q;exact h2 pins s1 aD H' D I' q
 |ret v=>exact q
 |brk=>exact q
 |cont=>exact q
theorem gG (h1:PS X st t):gC X [st] t:=by
 intro pins s σ H D I h;refine wpAny_execs_cons (aE (h1 pins s σ H D I h) λf s1 q=>?_);cases f with
 |next=>exact afp q
 |ret v=>exact q
 |brk=>exact q
 |cont=>exact q
theorem Inv.quiet {σ:St}(I:Inv X pins σ H s):interactive X.env=false:=by simp[interactive,I.ok.kind]
def pO (te:TE):TS:=λD σ H=>te σ H λ_ H1=>D.nx σ H1
theorem lr (he:PE X e te)(hs:swapsWith e none pos.line X.env=pure false:=by rfl):PS X (.Expr e pos) (pO te):=by
 intro pins s σ H D I h;exact wpAny_Expr_any (aE (he pins s σ H _ I h) λv s1 z9=>by obtain⟨x,H1,I1,r1,q1⟩:=z9;exact⟨σ,H1,I1,q1⟩) I.quiet hs
def vE (te:TE):TS:=λD σ H=>te σ H D.rt
theorem kl (he:PE X e te):PS X (.Return (some e) pos) (vE te):=by
 intro pins s σ H D I h;exact wpAny_Return_some (aE (he pins s σ H _ I h) λv s1 z9=>by obtain⟨x,H1,I1,r1,q1⟩:_:=z9;exact⟨x,σ,H1,I1,r1,q1⟩)
def FL (c:TT)(t u:TS):TS:=λD σ H=>c σ H λb H1=>if b=true then t D σ H1 else u D σ H1
theorem zo (hc:PT X c tc)(ha:gC X a t)(hb:gC X b u):PS X (.If c a b pos) (FL tc t u):=by
 intro pins s σ H D I h;refine wpAny_If (aE (hc pins s σ H _ I h) λd s1 z9=>?_);obtain⟨H1,I1,q1⟩:=z9;cases d with
 |true=>exact ha pins s1 σ H1 D I1 q1
 |false=>exact hb pins s1 σ H1 D I1 q1
def yI:TS:=λ_ _ _=>False
theorem BX:gC X dN yI:=λ_ _ _ _ _ _ h=>h.elim
end
abbrev TG:=V->St->Hp->(St->Hp->Prop)->Prop
abbrev vZ:=List V->St->Hp->(St->Hp->Prop)->Prop
def PG (X:Cx)(target:Expr)(t:TG):Prop:=
 ∀(pins:List (adV×Obj)) (s:adX) (σ:St) (H:Hp) (v:V) (u:vn) (Q:St->Hp->Prop),Inv X pins σ H s->RelV v u->t v σ H Q ->
  wpAny (model X.prog X.w) X.A (assign target X.env u) (λ_ s'=>∃aD H',Inv X pins aD H' s'/\Q aD H') X.xe s
def Ab (X:Cx)(ts:List Expr)(t:vZ):Prop:=
 ∀(pins:List (adV×Obj)) (s:adX) (σ:St) (H:Hp) (vs:List V) (us:List vn) (Q:St->Hp->Prop),Inv X pins σ H s->Vals vs us->t vs σ H Q ->
  wpAny (model X.prog X.w) X.A (assignInOrder ((assignEach ts X.env).map (·.2)) us) (λ_ s'=>∃aD H',Inv X pins aD H' s'/\Q aD H') X.xe s
abbrev PZ:=V->V->V->Hp->(Hp->Prop)->Prop
def P0 (X:Cx)(t:PZ):Prop:=
 ∀(pins:List (adV×Obj)) (s:adX) (σ:St) (H:Hp) (o i v:V) (ov iv u:vn) (Q:Hp->Prop),Inv X pins σ H s->RelV o ov->RelV i iv->RelV v u->t o i v H Q ->
  wpAny (model X.prog X.w) X.A (setItem ov iv u) (λ_ s'=>∃H',Inv X pins σ H' s'/\Q H') X.xe s
section
variable {pos:Pos}
def eJ (i:Nat):TG:=λv σ H Q=>Q (σ.set i (some v)) H
theorem jJ (hN:X.N.Nodup)(hi:X.N[i]?=some x)(hx:Loc X.env.scope x)(hf:X.fn x=true\/X.env.scope.names.lookup x=some .local:=by first|exact .inl rfl|exact .inr rfl|assumption):PG X (.Name x pos) (eJ i):=by
 intro pins s σ H v u Q I r h;exact wpAny_assign_Name (xY I hN hi hx r (λs' I'=>⟨_,H,I',h⟩) hf)
def FN:vZ:=λvs σ H Q=>vs=[]/\Q σ H
def sO (t:TG)(u:vZ):vZ:=λvs σ H Q=>∃v r,vs=v::r/\t v σ H λaD H'=>u r aD H' Q
theorem yp:Ab X [] FN:=by
 intro pins s σ H vs us Q I r h;obtain⟨e,h⟩:=h;subst e;cases r;exact assignInOrder_nil ⟨σ,H,I,h⟩
theorem j8 (h1:PG X e t)(h2:Ab X es u)(hs:(assignEach (e::es) X.env).map (·.2)=assign e X.env::(assignEach es X.env).map (·.2):=by rfl):Ab X (e::es) (sO t u):=by
 intro pins s σ H vs us Q I r h;obtain⟨v,vr,e1,h⟩:_:=h;subst e1;cases r with
 |cons r rr=>
  rw[hs];refine assignInOrder_cons (aE (h1 pins s σ H _ _ _ I r h) λ_ s1 z9=>?_);obtain⟨ao,H1,I1,q1⟩:=z9;exact h2 pins s1 ao H1 _ _ Q I1 rr q1
def FO (K:Frag)(n:Nat)(t:vZ):TG:=λv σ H Q=>∃a xs,v=.ref a/\cS K H a xs/\xs.length=n/\t xs σ H Q
theorem yJ {k:Nat}(hc:X.calm=true)(h:Ab X es t)(hn:(assignEach es X.env).length=n:=by rfl)(iG:(assignEach es X.env).findIdx? (·.1)=none:=by rfl):PG X (.Tuple es k pos) (FO X.K n t):=by
 intro pins s σ H v u Q I r hw;obtain⟨a,xs,e1,hq,hl,hw⟩:_:=hw;subst e1;cases r;obtain⟨its,rv,ht,hz⟩:_:=I.tuple hq;refine assign_Tuple_tuple (I.ok.hd hc) ht (by simp[hn,<- hl,rv.length]) iG λh' hx=>?_
 have I1:=I.kept (t':=s.toks) λb o e=>hx b o (AN (nt e)) e
 exact h pins _ σ H xs _ Q I1 'Z' hw
def FP (to ti:TE)(t:PZ):TG:=λv σ H Q=>to σ H λo H1=>ti σ H1 λi H2=>t o i v H2 λH3=>Q σ H3
theorem nZ (ho:PE X o to)(hi:PE X i ti)(hs:P0 X t)(ha:∀v,assign (.Subscript o i pos) X.env v=(do
   let ov<-holding [v] (eval o X.env)
   let iv<-holding [v,ov] (eval i X.env)
   standAt pos
   holding [v,ov,iv] (setItem ov iv v)
   release [v,ov,iv] []):=by intro _;rfl):PG X (.Subscript o i pos) (FP to ti t):=by
 intro pins s σ H v u Q I r h;refine ar (Po (aE (ho pins s σ H _ I h) λov s1 z9=>?_));obtain⟨x,H1,I1,r1,q1⟩:=z9;refine ar (Po (aE (hi pins s1 σ H1 _ I1 q1) λiv s2 z9=>?_));obtain⟨y,H2,I2,r2,q2⟩:=z9;refine ar (afV (ar (Po (aE (hs pins s2 σ H2 x y v ov iv u _ I2 r1 r2 r q2) λ_ s3 z9=>?_))));obtain⟨H3,I3,q3⟩:=z9;exact wpAny_release ⟨σ,H3,I3,q3⟩
def lM (te:TE)(g:TG):TS:=λD σ H=>te σ H λx H1=>g x σ H1 D.nx
theorem so (he:PE X e te)(hg:PG X tg g)(hs:swapsWithSole [tg] e pos.line X.env=pure false:=by rfl)(hw:swappedStores [tg] e X.env=pure none:=by rfl)(h1:(assignEach [tg] X.env).map (·.2)=[assign tg X.env]:=by rfl):PS X (.Assign [tg] e pos) (lM te g):=by
 intro pins s σ H D I h;refine wpAny_Assign_stores (aE (he pins s σ H _ I h) λv s1 z9=>?_) hs hw;obtain⟨x,H1,I1,r1,q1⟩:=z9;rw[h1];exact aE (hg pins s1 σ H1 x v _ I1 r1 q1) λ_ s2 q=>q
theorem iq (hN:X.N.Nodup)(hi:X.N[i]?=some x)(hx:Loc X.env.scope x)(he:PE X e te)(hs:swapsWith e (some (.Name x pos')) pos.line X.env=pure false:=by rfl)(hf:X.fn x=true\/X.env.scope.names.lookup x=some .local:=by first|exact .inl rfl|exact .inr rfl|assumption):
  PS X (.Assign [.Name x pos'] e pos) (lM te (eJ i)):=by
 intro pins s σ H D I h;refine wpAny_Assign_Name (aE (he pins s σ H _ I h) λv s1 z9=>?_) hs;obtain⟨y,H1,I1,r1,q1⟩:=z9;exact xY I1 hN hi hx r1 (λs2 I2=>⟨_,H1,I2,q1⟩) hf
def P1 (i j:Nat)(ta:TA):TS:=λD σ H=>ta σ H λvs H1=>∃v w,vs=[v,w]/\D.nx ((σ.set i (some v)).set j (some w)) H1
theorem aaO (hc:X.calm=true)(hN:X.N.Nodup)(hi:X.N[i]?=some x)(hj:X.N[j]?=some y)(bV:i≠j)(hx:X.env.scope.names.lookup x=some .local)(hy:X.env.scope.names.lookup y=some .local)(ha:PA X [a,b] ta)(hw:swappedStores [.Tuple [.Name x px,.Name y py] kt pt] (.Tuple [a,b] k2 tD) X.env=pure (some [x,y]))(hs:swapsWithSole [.Tuple [.Name x px,.Name y py] kt pt] (.Tuple [a,b] k2 tD) pos.line X.env=pure false:=by rfl):
  PS X (.Assign [.Tuple [.Name x px,.Name y py] kt pt] (.Tuple [a,b] k2 tD) pos) (P1 i j ta):=by
 intro pins s σ H D I h;refine ar (afV ?_);refine ar (wpAny_pure ?_);refine ar (Tuple_ (aE (ha _ pins s σ H _ I h) λus s1 z9=>?_));obtain⟨vs,H1,I1,r1,q1⟩:=z9;obtain⟨v,w,e1,q1⟩:_:=q1;subst e1;obtain⟨u1,u2,rfl,rv,qz⟩:∃u1 u2,us=[u1,u2]/\RelV v u1/\RelV w u2:=by
  cases r1 with
  |cons p q=>
   cases q with
   |cons p' q'=>
    cases q'
    grind
 refine SO ?_ (by show 2<=sizeLine;decide);have I2:Inv X pins σ H1 {s1 with heap:=s1.heap.push {cls:=.type "tuple",data:=.seq [u1,u2].toArray}}:=I1.kept (t':=s1.toks) λb o e=>mf _ e
 rw[hw];refine ar (wpAny_pure ?_);refine ar (ad3 (ar (unpackItems_tuple (items:=#[u1,u2]) (I.ok.hd hc) (IsTup.new s1.heap _) λh' kK=>?_)));have I3:=I2.kept (h':=h') (t':=s1.toks) λb o e=>kK b o (AN (nt e)) e
 refine ar (assignInOrder_cons (wpAny_bindName (xY I3 hN hj (.inl hy) qz (λs2 I4=>?_) (.inr hy))));refine assignInOrder_cons (wpAny_bindName (xY I4 hN hi (.inl hx) rv (λs3 I5=>assignInOrder_nil (wpAny_pure ?_)) (.inr hx)));rw[List.set_comm _ _ (ad7 bV)]at I5;exact⟨_,H1,I5,q1⟩
end
section
def ME (c:TT)(tb:TS):TS:=λD σ H=>∃W:Nat->St->Hp->Prop,(∃m,W m σ H)/\∀m σ H,W m σ H ->
 c σ H λb H1=>if b=true then ∃N:St->Hp->Prop,(∀aD H',N aD H'->∃m',m'<m/\W m' aD H')/\tb {D with nx:=N,ct:=N,bk:=D.nx} σ H1 else D.nx σ H1
theorem Cv (hp:PassesOwn (model X.prog X.w) X.A X.env X.xe)(hc:PT X c tc)(hb:gC X body tb):PS X (.While c body [] pos) (ME tc tb):=by
 intro pins s σ H D I h;obtain⟨W,⟨m0,w0⟩,turn⟩:_:=h;refine wpAny_While (codeAny_whileLoop (λn s'=>∃aD H',Inv X pins aD H' s'/\W n aD H') ?_ m0 ⟨σ,H,I,w0⟩);intro n s1 z9;obtain⟨ao,H1,I1,w1⟩:_:=z9;refine ad4 hp (aE (hc pins s1 ao H1 _ I1 (turn n ao H1 w1)) λb s2 z9=>?_);obtain⟨H2,I2,q2⟩:=z9;cases b with
 |true=>
  obtain⟨N,hN,q2⟩:=q2;refine ad4 hp (aE (hb pins s2 ao H2 _ I2 q2) λf s3 q3=>?_);cases f with
  |next=>
   obtain⟨kL,H3,I3,n3⟩:=q3;obtain⟨m',hm,w3⟩:=hN kL H3 n3;exact⟨m',hm,kL,H3,I3,w3⟩
  |cont=>
   obtain⟨kL,H3,I3,n3⟩:=q3;obtain⟨m',hm,w3⟩:=hN kL H3 n3;exact⟨m',hm,kL,H3,I3,w3⟩
  |brk=>exact q3
  |ret v=>exact q3
 |false=>
  exact afp ⟨ao,H2,I2,q2⟩
end
structure It where
 go:Nat->Hp->Prop
 v7:Nat->Hp->V->Hp->Prop
 stop:Nat->Hp->Prop
def jr (X:Cx)(pins:List (adV×Obj))(H:Hp)(b:adV):Prop:=
 H b=none/\b≠X.env.locals/\b∉X.fs/\(b∈X.ex\/X.dZ.heap.objs.size<=b)/\(∀x c,X.env.cells.lookup x=some c->c≠b)/\∀p∈X.pn++pins,p.1≠b
theorem Inv.vF {σ:St}{b:adV}(I:Inv X pins σ H s)(hb:s.heap.objs.size<=b)(hn:H' b=none):jr X pins H' b:=by
 refine⟨hn,ael (zd I.lt hb),I.acF hb,.inr (Cs I.sz hb),λx c e z=>?_,λp hp z=>?_⟩
 ·obtain⟨v,q⟩:=I.cell x c e;exact absurd (zd q.lt 'J') (aep _)
 ·exact absurd (zd (nt (I.pin p hp).1) 'J') (aep _)
structure Turn (P:agc) (w:agd) (K:Frag) (tg:Expr) (J:It) (fp:List adV) (it:adV) (tn:Nat->Heap->Prop):Prop where
 mem:it∈fp
 obj:∀i h,tn i h->∀b∈fp,∃o,h.get? b=some o/\∀v,o.data≠.cell v
 keep:∀i h h',tn i h->(∀b∈fp,∀o,h.get? b=some o->h'.get? b=some o)->tn i h'
 item:∀(X:Cx),X.prog=P->X.w=w->X.K=K->X.calm=true->∀(i:Nat) (pins:List (adV×Obj)) (s:adX) (σ:St) (H:Hp) (E:vn->adX->Prop),Inv X pins σ H s->(∀b∈fp,jr X pins H b)->tn i s.heap->J.go i H ->
  wpAny (model P w) X.A (pyNext (.ref it)) (λr s1=>∃u,r=some u /\
   wpAny (model P w) X.A (letOwnedTupleGo tg (.ref it) u) (λ_ s2=>∃x H',Inv X pins σ H' s2/\RelV x u/\J.v7 i H x H'/\tn (i+1) s2.heap/\∀b∈fp,H' b=none) E s1) E s
 done:∀(X:Cx),X.prog=P->X.w=w->X.K=K->X.calm=true->∀(i:Nat) (pins:List (adV×Obj)) (s:adX) (σ:St) (H:Hp) (E:vn->adX->Prop),Inv X pins σ H s->(∀b∈fp,jr X pins H b)->tn i s.heap->J.stop i H ->
  wpAny (model P w) X.A (pyNext (.ref it)) (λr s1=>r=none/\Inv X pins σ H s1) E s
 self:∀(A:Around) (i:Nat) (s:adX) (Q:vn->adX->Prop) (E:vn->adX->Prop),tn i s.heap->Q (.ref it) s->wpAny (model P w) A (pyIter (.ref it)) Q E s
abbrev TI:=St->Hp->(It->Hp->Prop)->Prop
def QT (X:Cx)(pins:List (adV×Obj))(σ:St)(tg:Expr)(R:It->Hp->Prop)(Ac:vn)(s2:adX):Prop:=
 ∃(it:adV) (fp:List adV) (tn:Nat->Heap->Prop) (J:It) (H':Hp),Ac=.ref it/\Inv X pins σ H' s2/\Turn X.prog X.w X.K tg J fp it tn/\tn 0 s2.heap/\(∀b∈fp,jr X pins H' b)/\R J H'
def PI (X:Cx)(tg iter:Expr)(wi:TI):Prop:=
 ∀(pins:List (adV×Obj)) (s:adX) (σ:St) (H:Hp) (R:It->Hp->Prop),Inv X pins σ H s->wi σ H R ->
  wpAny (model X.prog X.w) X.A (eval iter X.env) (λv s1=>wpAny (model X.prog X.w) X.A (pyIter v) (QT X pins σ tg R) X.xe s1) X.xe s
theorem OS (ho:s.heap.get? it=some o)(hc:o.cls=.type n)(hd:o.data=.fields vs)(hn:["enumerate", "zip", "dict_itemiterator", "dict_reverseitemiterator", "odict_iterator", "itertools.zip_longest", "itertools.pairwise"].contains n=false)(hQ:Q () s):wpAny M A (letOwnedTupleGo tg (.ref it) u) Q E s:=by
 cases tg<;>first
  |exact wpAny_pure hQ
  |(cases u<;>first
    |exact wpAny_pure hQ
    |(refine ar (wpAny_load ho ?_)
      rw[hc,hd];show wpAny M A (if(["enumerate", "zip", "dict_itemiterator", "dict_reverseitemiterator", "odict_iterator", "itertools.zip_longest", "itertools.pairwise"].contains n&&vs[0]?==some (rawInt _))=true then _ else _) Q E s;rw[rf 'O'];exact wpAny_pure hQ))
def v8 (K:Frag)(a:adV):It:=
 ⟨λi H=>∃xs x,aM K H a xs/\xs[i]?=some x,λi H x H'=>H'=H/\∀xs,aM K H a xs->xs[i]?=some x,λi H=>∃xs,aM K H a xs/\xs.length<=i⟩
def Ad (lo:Int)(n:Nat):It:=⟨λi _=>i<n,λi H x H'=>H'=H/\x=.int (lo+i),λi _=>n<=i⟩
theorem WO {K:Frag}(a it:adV):Turn P w K tg (v8 K a) [it] it (λi h=>h.IsListIter it a i) where
 mem:='Y'
 obj:=λi h st b hb=>by
  obtain⟨o,e,c,d⟩:_:=st
  simp_all
 keep:=λi h h' st k=>st.at λo e=>k it 'Y' o e
 item:=by
  intro X hP hw hK hc i pins s σ H E I hf st hg;subst hP hw hK;obtain⟨xs,x,hq,hx⟩:_:=hg;obtain⟨its,rv,p,hz⟩:_:=I.list hq;obtain⟨u,hu,ru⟩:_:=rv.get hx;obtain⟨f0,f1,f2,f3,f4,f5⟩:_:=hf it 'Y';refine wpAny_pyNext_list_item st p.isList (x:=u) 'J' λh' ah sb=>?_
  have I1:=I.turned (t':=s.toks) (λb o hb e=>(sb.2 b hb).trans e) f0 f1 f3 f4 f5;obtain⟨o,e,c,d⟩:_:=id ah;exact⟨u,rfl,OS e c d 'Q' ⟨x,H,I1,ru,⟨rfl,λys hy=>by rw[I.JT hy hq];exact hx⟩,ah,λb hb=>(hf b hb).1⟩⟩
 done:=by
  intro X hP hw hK hc i pins s σ H E I hf st hg;subst hP hw hK;obtain⟨xs,hq,hx⟩:_:=hg;obtain⟨its,rv,p,hz⟩:_:=I.list hq;obtain⟨f0,f1,f2,f3,f4,f5⟩:_:=hf it 'Y';have hl:=rv.length;exact wpAny_pyNext_list_end (I.ok.hd hc) st p.isList 'J' λh' eb=>⟨rfl,I.turned (t':=s.toks) (λb o hb e=>eb b o hb e) f0 f1 f3 f4 f5⟩
 self:=λ_ _ _ _ _ st h=>wpAny_pyIter_listiter st h
theorem V3 {K:Frag}(it:adV)(lo:Int)(n:Nat):Turn P w K tg (Ad lo n) [it] it (λi h=>IsRangeIter h it (lo+(i:Nat)*1) ((n:Int)-(i:Nat)) 1) where
 mem:='Y'
 obj:=λi h st b hb=>by
  simp_all
 keep:=λi h h' st k=>k it 'Y' _ st
 item:=by
  intro X hP hw hK hc i pins s σ H E I hf st hg;subst hP hw hK;obtain⟨f0,f1,f2,f3,f4,f5⟩:_:=hf it 'Y';have W:=Walks.range (prog:=X.prog) (w:=X.w) (I.ok.hd hc) it lo 1 n;refine W.item i s _ _ hg st λv h' tk hv ah kk=>?_
  obtain⟨t,rfl⟩:=hv;have I1:Inv X pins σ H {s with heap:=h',toks:=tk}:=I.turned (λb o hb e=>kk b o 'J' e) f0 f1 f3 f4 f5;refine⟨_,rfl,OS ah rfl rfl 'Q' ⟨.int (lo+i),H,I1,⟨t,?_⟩,⟨rfl,rfl⟩,ah,λb hb=>(hf b hb).1⟩⟩
  simp_all
 done:=by
  intro X hP hw hK hc i pins s σ H E I hf st hg;obtain⟨f0,f1,f2,f3,f4,f5⟩:=hf it 'Y';exact wpAny_pyNext_range_end (I.ok.hd hc) st (by have:n<=i:=hg;lia) λh' eb=>⟨rfl,I.turned (t':=s.toks) (λb o hb e=>eb b o hb e) f0 f1 f3 f4 f5⟩
 self:=λ_ _ _ _ _ st h=>wpAny_pyIter_rangeiter st h
section
def sP (K:Frag)(tl:TE):TI:=λσ H R=>tl σ H λx H1=>∃a,x=.ref a/\(∃xs,aM K H1 a xs)/\R (v8 K a) H1
theorem yq (hl:PE X l tl):PI X tg l (sP X.K tl):=by
 intro pins s σ H R I h;refine aE (hl pins s σ H _ I h) λv s1 z9=>?_
 obtain⟨x,H1,I1,r1,q1⟩:=z9;obtain⟨a,e,⟨xs,hq⟩,q⟩:_:=q1;subst e;cases r1;obtain⟨its,rv,p,hz⟩:_:=I1.list hq;refine afO p.isList ?_;refine⟨s1.heap.objs.size,[s1.heap.objs.size],_,_,H1,rfl,I1.kept (t':=s1.toks) λb o e=>mf _ e,WO a _,⟨_,BS _ rfl,rfl,rfl⟩,λb hb=>?_,q⟩;have e:b=s1.heap.objs.size:='J'
 subst e;exact I1.vF (br _) (I1.aL.fresh (br _))
theorem XC {σ:St}{lo:Int}(I:Inv X pins σ H s)(h1 : -(2^62)<=lo)(h2:lo<2^62)(h3 : -(2^62)<=hi)(h4:hi<2^62)(q:R (Ad lo (hi-lo).toNat) H):wpAny (model X.prog X.w) X.A (pyIter (.ref s.heap.objs.size)) (QT X pins σ tg R) E {s with heap:=s.heap.push {cls:=.type "range",data:=.fields #[.int lo t,.int hi u,.int 1 v]},toks:=tk}:=by
 refine wpAny_pyIter_range (IsRange.new ..) (small_one h1 h2 h3 h4) ?_;have I1:Inv X pins σ H {s with heap:=s.heap.push {cls:=.type "range",data:=.fields #[.int lo t,.int hi u,.int 1 v]},toks:=tk}:=I.kept λb o e=>mf _ e
 refine⟨(s.heap.push {cls:=.type "range",data:=.fields #[.int lo t,.int hi u,.int 1 v]}).objs.size,[(s.heap.push {cls:=.type "range",data:=.fields #[.int lo t,.int hi u,.int 1 v]}).objs.size],_,_,H,rfl,
  I1.kept (t':=tk) λb o e=>mf _ e,V3 _ lo (hi-lo).toNat,?_,λb hb=>?_,q⟩
 ·have e1:lo+((0:Nat))*1=lo:='Y'
  have e2:(((hi-lo).toNat))-((0:Nat))=Builtin.Range.rangeSize lo hi 1:=by rw[rangeSize_one];split<;>lia
  show IsRangeIter _ _ (lo+((0:Nat))*1) ((((hi-lo).toNat))-((0:Nat))) 1;rw[e1,e2];exact BS _ rfl
 ·have e:b=(s.heap.push {cls:=.type "range",data:=.fields #[.int lo t,.int hi u,.int 1 v]}).objs.size:='J'
  subst e;exact I1.vF (br _) (I1.aL.fresh (br _))
def OT (ta:TA):TI:=λσ H R=>ta σ H λvs H1=>∃j:Int,vs=[.int j] /\ -(2^62)<=j/\j<2^62/\R (Ad 0 j.toNat) H1
theorem WQ (hg:Gl X "range")(hm:X.mg "range"=none)(ha:PA X [a] ta)(hs:starEach [a] X.env=[(false,eval a X.env)]:=by rfl):PI X tg (.Call (.Name "range" p) [a] [] pos) (OT ta):=by
 intro pins s σ H R I h;refine Call_ (mU I hg hm boot_range (LH (aE (ha pos pins s σ H _ I h) λus s1 z9=>?_) hs rfl));obtain⟨vs,H1,I1,r1,q1⟩:=z9;obtain⟨j,e,q1,q2,q⟩:_:=q1;subst e;cases r1 with
 |cons r rr=>
  cases rr
  obtain⟨t,rfl⟩:=r;exact call_range_1 (XC I1 'O' 'O' q1 q2 'J')
def vG (wi:TI)(g:TG)(tb:TS):TS:=λD σ H=>wi σ H λJ H1=>∃W:Nat->Nat->St->Hp->Prop,(∃m,W 0 m σ H1)/\∀i m σ H,W i m σ H ->
 (J.stop i H/\D.nx σ H)\/(J.go i H/\∃N:St->Hp->Prop,(∀aD H',N aD H'->∃m',m'<m/\W (i+1) m' aD H')/\∀x H',J.v7 i H x H'->g x σ H' λcZ H2=>tb {D with nx:=N,ct:=N,bk:=D.nx} cZ H2)
def sr (fp:List adV)(h:Heap):List (adV×Obj):=fp.filterMap λb=>(h.get? b).map λo=>(b,o)
theorem rJ (hb:b∈fp)(e:h.get? b=some o):(b,o)∈sr fp h:=afw.mpr ⟨b,hb,'J'⟩
theorem WR (hp:p∈sr fp h):p.1∈fp/\h.get? p.1=some p.2:=by
 obtain⟨b,hb,e⟩:_:=afw.mp hp;cases q:h.get? b with
 |none=>rw[q]at e;cases e
 |some o=>
  grind
theorem Inv.pinned {σ:St}(I:Inv X pins σ H s)(hf:∀b∈fp,jr X pins H b)(ho:∀b∈fp,∃o,s.heap.get? b=some o/\∀v,o.data≠.cell v):Inv X (pins++sr fp s.heap) σ H s:=
 I.KI λp hp=>(qr.mp hp).elim (λz=>I.pin p (l7 _ z)) λz=>by
  obtain⟨hb,e⟩:=WR z;obtain⟨f0,f1,f2,_⟩:_:=hf p.1 hb
  grind
theorem Inv.uk {σ:St}(I:Inv X (pins++pl) σ H s):Inv X pins σ H s:=I.KI λp hp=>I.pin p (l7 _ (xy _ hp))
theorem DJ (hp:PassesOwn (model X.prog X.w) X.A X.env X.xe)(hc:X.calm=true)(hi:PI X tg iter wi)(hg:PG X tg g)(hb:gC X body tb)(hs:∀x,foldedSetIterable iter X.env x=pure x:=by intro _;rfl):PS X (.For tg iter body [] pos) (vG wi g tb):=by
 intro pins s σ H D I h;refine wpAny_For (aE (hi pins s σ H _ I h) λv s1 h1=>aE h1 λAc s2 h2=>?_) hs;obtain⟨it,fp,tn,J,H2,e,I2,T,aZ,f2,W,⟨m0,w0⟩,turn⟩:_:=h2;subst e;have stat:∀{H':Hp},(∀b∈fp,H' b=none)->∀b∈fp,jr X pins H' b:=λhn b hb=>⟨hn b hb,(f2 b hb).2⟩
 refine codeAny_forLoop_any (λn s'=>∃i aD H',Inv X pins aD H' s'/\tn i s'.heap/\(∀b∈fp,H' b=none)/\W i n aD H') ?_ m0 ⟨0,σ,H2,I2,aZ,λb hb=>(f2 b hb).1,w0⟩;intro n s3 z9;obtain⟨i,kL,H3,I3,fU,QU,w3⟩:_:=z9;obtain⟨stop,qn⟩|⟨go,N,hN,step⟩:=turn i n kL H3 w3
 ·refine ad4 hp (aE (T.done X rfl rfl rfl hc i pins s3 kL H3 X.xe I3 (stat QU) fU stop) λr s4 z9=>?_);obtain⟨hr,I4⟩:=z9;subst hr;exact afp ⟨kL,H3,I4,qn⟩
 ·refine ad4 hp (aE (T.item X rfl rfl rfl hc i pins s3 kL H3 X.xe I3 (stat QU) fU go) λr s4 z9=>?_);obtain⟨u,hr,h4⟩:=z9;subst hr;refine ad4 hp (aE h4 λ_ s5 z9=>?_);obtain⟨x,H5,I5,r5,y5,nB,qA⟩:=z9;have I5':=I5.pinned (stat qA) (T.obj _ _ nB);refine ad4 hp (aE (hg _ s5 kL H5 x u _ I5' r5 (step x H5 y5)) λ_ s6 z9=>?_);obtain⟨σ6,H6,I6,q6⟩:=z9;refine ad4 hp (aE (hb _ s6 σ6 H6 _ I6 q6) λf s7 q7=>?_);have again:∀{kM:St} {H7:Hp},Inv X (pins++sr fp s5.heap) kM H7 s7->N kM H7->∃m,m<n/\∃i aD H',Inv X pins aD H' s7/\tn i s7.heap/\(∀b∈fp,H' b=none)/\W i m aD H':=λ{kM H7} I7 n7=>by
   obtain⟨m',hm,w7⟩:=hN kM H7 n7;refine⟨m',hm,i+1,kM,H7,I7.uk,T.keep _ _ _ nB λb hb o e=>(I7.pin (b,o) (l7 _ (l7 _ (rJ hb e)))).1,λb hb=>?_,w7⟩;obtain⟨o,e,d⟩:=T.obj _ _ nB b hb;exact(I7.pin (b,o) (l7 _ (l7 _ (rJ hb e)))).2.1
  cases f with
  |next=>obtain⟨kM,H7,I7,n7⟩:=q7;exact again I7 n7
  |cont=>obtain⟨kM,H7,I7,n7⟩:=q7;exact again I7 n7
  |brk=>obtain⟨kM,H7,I7,q7⟩:=q7;exact⟨kM,H7,I7.uk,q7⟩
  |ret v=>obtain⟨x7,kM,H7,I7,r7,q7⟩:=q7;exact⟨x7,kM,H7,I7.uk,r7,q7⟩
end
theorem XD {K:Frag}{g:TG}{tb:TS}{D:Ends}(Pv:Nat->St->Hp->Prop)(h0:Pv 0 σ H)(hl:∀i σ H,i<=xs.length->Pv i σ H->aM K H a xs)(hs:∀i x σ H,xs[i]?=some x->Pv i σ H->g x σ H λcZ H2=>tb {D with nx:=Pv (i+1),ct:=Pv (i+1),bk:=D.nx} cZ H2)(hd:∀σ H,Pv xs.length σ H->D.nx σ H):
  ∃W:Nat->Nat->St->Hp->Prop,(∃m,W 0 m σ H)/\∀i m σ H,W i m σ H ->
   ((v8 K a).stop i H/\D.nx σ H)\/((v8 K a).go i H/\∃N,(∀aD H',N aD H'->∃m',m'<m/\W (i+1) m' aD H')/\∀x H',(v8 K a).v7 i H x H'->g x σ H' λcZ H2=>tb {D with nx:=N,ct:=N,bk:=D.nx} cZ H2):=by
 refine⟨λi m σ H=>m=xs.length-i/\i<=xs.length/\Pv i σ H,⟨xs.length,'Y',AM _,h0⟩,?_⟩;rintro i m σ H ⟨rfl,hi,p⟩;have q:=hl i σ H hi p;by_cases bD:i<xs.length
 ·refine .inr ⟨⟨xs,xs[i],q,by simp[bD]⟩,Pv (i+1),λaD H' p'=>⟨xs.length-(i+1),'O',rfl,bD,p'⟩,λx H' y=>?_⟩;obtain⟨e,y⟩:=y
  grind
 ·have e:i=xs.length:='O'
  subst e;exact .inl ⟨⟨xs,q,br _⟩,hd σ H p⟩
abbrev R2:=V->V->Hp->VK->Prop
def cN (X:Cx)(f:vn->vn->Sem vn)(r:R2):Prop:=
 ∀(pins:List (adV×Obj)) (s:adX) (σ:St) (H:Hp) (x y:V) (v u:vn) (Q:VK),Inv X pins σ H s->RelV x v->RelV y u->r x y H Q ->
  wpAny (model X.prog X.w) X.A (f v u) (EP X pins σ Q) X.xe s
def GD (X:Cx)(f:vn->Sem vn)(r:V->Hp->VK->Prop):Prop:=
 ∀(pins:List (adV×Obj)) (s:adX) (σ:St) (H:Hp) (x:V) (v:vn) (Q:VK),Inv X pins σ H s->RelV x v->r x H Q ->
  wpAny (model X.prog X.w) X.A (f v) (EP X pins σ Q) X.xe s
def eY (X:Cx)(f:vn)(r:List V->Hp->VK->Prop):Prop:=
 ∀(pins:List (adV×Obj)) (s:adX) (σ:St) (H:Hp) (xs:List V) (us:List vn) (Q:VK),Inv X pins σ H s->Vals xs us->r xs H Q ->
  wpAny (model X.prog X.w) X.A (call f us) (EP X pins σ Q) X.xe s
def iZ (r:R2)(ta tb:TE):TE:=λσ H Q=>ta σ H λx H1=>tb σ H1 λy H2=>r x y H2 Q
def tUn (r:V->Hp->VK->Prop)(ta:TE):TE:=λσ H Q=>ta σ H λx H1=>r x H1 Q
def rI (C:Int->Int->Prop)(g:Int->Int->V):R2:=λx y H Q=>∃i j,x=.int i/\y=.int j/\C i j/\Q (g i j) H
def qB (g:Int->Int->V):R2:=λx y H Q=>∃i j,x=.int i/\y=.int j/\Q (g i j) H
def rU (g:Int->V):V->Hp->VK->Prop:=λx H Q=>∃i,x=.int i/\Q (g i) H
section
theorem FQ (ha:PE X a ta)(hb:PE X b tb){σ:St}{R:V->V->Hp->Prop}(I:Inv X pins σ H s)(h:ta σ H λx H1=>tb σ H1 λy H2=>R x y H2){f:vn->vn->Sem vn}(hf:∀v u s2 x y H2,Inv X pins σ H2 s2->RelV x v->RelV y u->R x y H2->wpAny (model X.prog X.w) X.A (f v u) Q X.xe s2):
  wpAny (model X.prog X.w) X.A (eval a X.env) (λv bz=>wpAny (model X.prog X.w) X.A (eval b X.env) (λu pW=>wpAny (model X.prog X.w) X.A (f v u) Q X.xe pW) X.xe bz) X.xe s:=by
 refine aE (ha pins s σ H _ I h) λv s1 z9=>?_
 obtain⟨x,H1,I1,r1,q1⟩:=z9;refine aE (hb pins s1 σ H1 _ I1 q1) λu s2 z9=>?_
 obtain⟨y,H2,I2,r2,q2⟩:=z9
 grind
theorem sQ (ho:cN X (binaryOp op) r)(ha:PE X a ta)(hb:PE X b tb):PE X (.BinOp a op b pos) (iZ r ta tb):=by
 intro pins s σ H Q I h;exact wpAny_BinOp (FQ ha hb I h λv u s2 x y H2 I2 rx ry q=>ho pins s2 σ H2 x y v u Q I2 rx ry q)
theorem abW (ho:GD X (unaryOp op) r)(ha:PE X a ta):PE X (.UnaryOp op a pos) (tUn r ta):=by
 intro pins s σ H Q I h;exact UnaryOp_ (aE (ha pins s σ H _ I h) λv s1 z9=>by obtain⟨x,H1,I1,r1,q1⟩:_:=z9;exact ho pins s1 σ H1 x v Q I1 r1 q1)
theorem v9 {g:Int->Int->Int}(rule:∀i j t u s Q E,C i j->Q (.int (g i j) s.toks) {s with toks:=s.toks+1}->wpAny (model X.prog X.w) X.A (f (.int i t) (.int j u)) Q E s):
  cN X f (rI C λi j=>.int (g i j)):=by
 intro pins s σ H x y v u Q I rx ry h;obtain⟨i,j,rfl,rfl,hc,q⟩:_:=h;obtain⟨t,rfl⟩:=rx;obtain⟨t',rfl⟩:=ry;exact rule i j t t' s _ _ hc ⟨.int (g i j),H,I.tok _,⟨_,rfl⟩,q⟩
theorem P4 {g:Int->Int->Int}(rule:∀i j t u s Q E,Q (.int (g i j) s.toks) {s with toks:=s.toks+1}->wpAny (model X.prog X.w) X.A (f (.int i t) (.int j u)) Q E s):
  cN X f (qB λi j=>.int (g i j)):=by
 intro pins s σ H x y v u Q I rx ry h;obtain⟨i,j,rfl,rfl,q⟩:_:=h;obtain⟨t,rfl⟩:=rx;obtain⟨t',rfl⟩:=ry;exact rule i j t t' s _ _ ⟨.int (g i j),H,I.tok _,⟨_,rfl⟩,q⟩
theorem FR {g:Int->Int->Bool}(rule:∀i j t u s Q E,Q (.bool (g i j)) s->wpAny (model X.prog X.w) X.A (f (.int i t) (.int j u)) Q E s):
  cN X f (qB λi j=>.bl (g i j)):=by
 intro pins s σ H x y v u Q I rx ry h;obtain⟨i,j,rfl,rfl,q⟩:_:=h;obtain⟨t,rfl⟩:=rx;obtain⟨t',rfl⟩:=ry;exact rule i j t t' s _ _ ⟨.bl (g i j),H,I,rfl,q⟩
def P5 (i j:Int):Prop:=0<=j/\j<=1000000/\i.natAbs<2^64
def zL (i j:Int):Prop:=(-(2^64)<i/\i<2^64)\/(-(2^64)<j/\j<2^64)
theorem zL.ok (h:zL i j):IntMulOk i j:=by
 obtain⟨h1,h2⟩|⟨h1,h2⟩:=h
 ·exact .of_left (intBits_le_64 h1 h2)
 ·exact .of_right (intBits_le_64 h1 h2)
theorem MF:cN X (binaryOp .Add) (qB λi j=>.int (i+j)):=P4 λ_ _ _ _ _ _ _ q=>add_int q
theorem yK:cN X (binaryOp .Sub) (qB λi j=>.int (i-j)):=P4 λ_ _ _ _ _ _ _ q=>sub_int q
theorem aaP:cN X (binaryOp .Mult) (rI zL λi j=>.int (i*j)):=v9 λ_ _ _ _ _ _ _ hc q=>mul_int q hc.ok
theorem aaQ:cN X (binaryOp .Mod) (rI (λ_ j=>0<j) λi j=>.int (i%j)):=v9 λi j _ _ _ _ _ hc q=>by
 have h1:(0:Int)<j:=hc;exact mod_int' 'O' (by rw[Int.fmod_eq_emod_of_nonneg i 'O'];exact q)
theorem aaR:cN X (binaryOp .Pow) (rI P5 λi j=>.int (i^j.toNat)):=v9 λ_ _ _ _ _ _ _ hc q=>pow_int_small hc.1 hc.2.1 hc.2.2 q
theorem unI {g:Int->Int}(rule:∀i t s Q E,Q (.int (g i) s.toks) {s with toks:=s.toks+1}->wpAny (model X.prog X.w) X.A (f (.int i t)) Q E s):
  GD X f (rU λi=>.int (g i)):=by
 intro pins s σ H x v Q I rx h;obtain⟨i,rfl,q⟩:=h;obtain⟨t,rfl⟩:=rx;exact rule i t s _ _ ⟨.int (g i),H,I.tok _,⟨_,rfl⟩,q⟩
theorem aaS:GD X (unaryOp .USub) (rU λi=>.int (-i)):=unI λ_ _ _ _ _ q=>neg_int q
end
def zM:V->V->Bool
 | .aW,.aW=>true | .aW,.int _=>true | .int _,.aW=>true | .aW,.bl _=>true | .bl _,.aW=>true | .aW,.str _=>true | .str _,.aW=>true
 | .int _,.int _=>true | .bl _,.bl _=>true | .str _,.str _=>true | .jA _,.jA _=>true
 | .int _,.str _=>true | .str _,.int _=>true | .bl _,.str _=>true | .str _,.bl _=>true
 |_,_=>false
def rEq:R2:=λx y H Q=>zM x y=true/\Q (.bl (decide (x=y))) H
def rNe:R2:=λx y H Q=>zM x y=true/\Q (.bl (!decide (x=y))) H
theorem KL:decide (V.int i=V.int j)=(i==j):=by
 grind
theorem MG:decide (V.bl i=V.bl j)=(i==j):=by
 grind
theorem KN:decide (V.str i=V.str j)=(i==j):=by
 grind
theorem KO:decide (V.jA i=V.jA j)=(i.toList==j.toList):=by
 rw[af4]
 simp_all
section
theorem cL {σ:St}(I:Inv X pins σ H s)(q:Q (.bl k) H)(e:k=k'):EP X pins σ Q (.bool k') s:=by
 subst e;exact⟨.bl k,H,I,rfl,q⟩
theorem zp:cN X (compareOp .Eq) rEq:=by
 intro pins s σ H x y v u Q I rx ry h;obtain⟨hs,q⟩:=h;cases x with
 |aW=>
  cases rx
  cases y with
  |aW=>cases ry;exact PySem.EqNone.eq_none_none (cL I q 'Y')
  |bl j=>cases ry;exact PySem.EqNone.eq_none_bool (cL I q 'Y')
  |int j=>obtain⟨t',rfl⟩:=ry;exact PySem.EqNone.eq_none_int (cL I q 'Y')
  |str j=>obtain⟨t',rfl⟩:=ry;exact PySem.EqNone.eq_none_str (cL I q 'Y')
  |_=>exact absurd (show false=true from hs) AL
 |bl i=>
  cases rx
  cases y with
  |aW=>cases ry;exact PySem.EqNone.eq_bool_none (cL I q 'Y')
  |bl j=>cases ry;exact eq_bool (cL I q MG)
  |str j=>obtain⟨t',rfl⟩:=ry;exact PySem.EqMixed.eq_bool_str (cL I q 'Y')
  |_=>exact absurd (show false=true from hs) AL
 |int i=>
  obtain⟨t,rfl⟩:=rx;cases y with
  |aW=>cases ry;exact PySem.EqNone.eq_int_none (cL I q 'Y')
  |int j=>obtain⟨t',rfl⟩:=ry;exact eq_int (cL I q KL)
  |str j=>obtain⟨t',rfl⟩:=ry;exact PySem.EqMixed.eq_int_str (cL I q 'Y')
  |_=>exact absurd (hs) AL
 |str i=>
  obtain⟨t,rfl⟩:=rx;cases y with
  |aW=>cases ry;exact PySem.EqNone.eq_str_none (cL I q 'Y')
  |bl j=>cases ry;exact PySem.EqMixed.eq_str_bool (cL I q 'Y')
  |int j=>obtain⟨t',rfl⟩:=ry;exact PySem.EqMixed.eq_str_int (cL I q 'Y')
  |str j=>obtain⟨t',rfl⟩:=ry;exact eq_str (cL I q KN)
  |_=>exact absurd (hs) AL
 |jA i=>
  obtain⟨t,rfl⟩:=rx;cases y with
  |jA j=>obtain⟨t',rfl⟩:=ry;exact PySem.W.eq_bytes (cL I q KO)
  |_=>exact absurd (hs) AL
 |_=>cases y<;>exact absurd (hs) AL
theorem OU:cN X (compareOp .NotEq) rNe:=by
 intro pins s σ H x y v u Q I rx ry h;obtain⟨hs,q⟩:=h;cases x with
 |aW=>
  cases rx
  cases y with
  |aW=>cases ry;exact PySem.EqNone.ne_none_none (cL I q 'Y')
  |bl j=>cases ry;exact PySem.EqNone.ne_none_bool (cL I q 'Y')
  |int j=>obtain⟨t',rfl⟩:=ry;exact PySem.EqNone.ne_none_int (cL I q 'Y')
  |str j=>obtain⟨t',rfl⟩:=ry;exact PySem.EqNone.ne_none_str (cL I q 'Y')
  |_=>exact absurd (show false=true from hs) AL
 |bl i=>
  cases rx
  cases y with
  |aW=>cases ry;exact PySem.EqNone.ne_bool_none (cL I q 'Y')
  |bl j=>cases ry;exact ne_bool (cL I q (congrArg not MG))
  |str j=>obtain⟨t',rfl⟩:=ry;exact PySem.EqMixed.ne_bool_str (cL I q 'Y')
  |_=>exact absurd (show false=true from hs) AL
 |int i=>
  obtain⟨t,rfl⟩:=rx;cases y with
  |aW=>cases ry;exact PySem.EqNone.ne_int_none (cL I q 'Y')
  |int j=>obtain⟨t',rfl⟩:=ry;exact ne_int (cL I q (congrArg not KL))
  |str j=>obtain⟨t',rfl⟩:=ry;exact PySem.EqMixed.ne_int_str (cL I q 'Y')
  |_=>exact absurd (hs) AL
 |str i=>
  obtain⟨t,rfl⟩:=rx;cases y with
  |aW=>cases ry;exact PySem.EqNone.ne_str_none (cL I q 'Y')
  |bl j=>cases ry;exact PySem.EqMixed.ne_str_bool (cL I q 'Y')
  |int j=>obtain⟨t',rfl⟩:=ry;exact PySem.EqMixed.ne_str_int (cL I q 'Y')
  |str j=>obtain⟨t',rfl⟩:=ry;exact ne_str (cL I q (congrArg not KN))
  |_=>exact absurd (hs) AL
 |jA i=>
  obtain⟨t,rfl⟩:=rx;cases y with
  |jA j=>obtain⟨t',rfl⟩:=ry;exact PySem.W.ne_bytes (cL I q (congrArg not KO))
  |_=>exact absurd (hs) AL
 |_=>cases y<;>exact absurd (hs) AL
theorem OV:cN X (compareOp .Lt) (qB λi j=>.bl (decide (i<j))):=FR λ_ _ _ _ _ _ _ q=>lt_int q
theorem EJ:cN X (compareOp .Gt) (qB λi j=>.bl (decide (j<i))):=FR λ_ _ _ _ _ _ _ q=>gt_int q
theorem abX:cN X (compareOp .GtE) (qB λi j=>.bl (decide (j<=i))):=FR λ_ _ _ _ _ _ _ q=>ge_int q
theorem MJ:cN X (compareOp .Is) (λx y H Q=>y=.aW/\Q (.bl (decide (x=.aW))) H):=by
 intro pins s σ H x y v u Q I rx ry h;obtain⟨rfl,q⟩:=h;cases ry;refine is_none_gen (cL I q ?_);cases x<;>first
  |(cases rx;rfl)
  |(obtain⟨t,rfl⟩:=rx;rfl)
theorem fN (b:Expr)(h:op≠.In:=by decide)(h2:op≠.NotIn:=by decide):behindInMarks op b=false:=by
 have e1:(op==CmpOp.In)=false:='J'
 have e2:(op==CmpOp.NotIn)=false:='J'
 cases b<;>simp[behindInMarks,e1,e2]
theorem YX (ho:cN X (compareOp op) r)(ha:PE X a ta)(hb:PE X b tb)(hm:behindInMarks op b=false):PE X (.Compare a [op] [b] pos) (iZ r ta tb):=by
 intro pins s σ H Q I h;exact wpAny_Compare1 (FQ ha hb I h λv u s2 x y H2 I2 rx ry q=>ho pins s2 σ H2 x y v u Q I2 rx ry q) hm
def EK (t:TE):TT:=λσ H Q=>t σ H λx H'=>∃k,x=.bl k/\Q k H'
theorem C3 (ho:cN X (compareOp op) r)(ha:PE X a ta)(hb:PE X b tb)(hm:behindInMarks op b=false):PT X (.Compare a [op] [b] pos) (EK (iZ r ta tb)):=by
 intro pins s σ H Q I h;refine wpAny_isTrue_Compare1 (aE (ha pins s σ H _ I h) λv s1 ⟨x,H1,I1,r1,q1⟩=>aE (hb pins s1 σ H1 _ I1 q1) λu s2 ⟨y,H2,I2,r2,q2⟩=>
  aE (ho pins s2 σ H2 x y v u _ I2 r1 r2 q2) λc s3 z9=>?_) hm
 obtain⟨z,H3,I3,r3,k,e,q3⟩:=z9;subst e;cases r3;exact YO ⟨H3,I3,q3⟩
theorem yL:(sizeLine:Nat)<2^63:='Q'
theorem vals1 (r:Vals [x] us):∃u,us=[u]/\RelV x u:=by
 cases r with
 |cons r1 r2=>cases r2;exact⟨_,rfl,r1⟩
theorem XF:eY X (.builtin "abs") (λxs H Q=>∃i,xs=[.int i]/\Q (.int (if i<0 then -i else i)) H):=by
 intro pins s σ H xs us Q I r h;obtain⟨i,rfl,q⟩:_:=h;obtain⟨u,rfl,t,rfl⟩:=vals1 r;exact call_abs_int λu tk=>⟨.int (if i<0 then -i else i),H,I.tok _,⟨_,rfl⟩,q⟩
theorem WT:eY X (.type "int") (λxs H Q=>(∃i,xs=[.int i]/\Q (.int i) H)\/∃k,xs=[.bl k]/\Q (.int (if k then 1 else 0)) H):=by
 intro pins s σ H xs us Q I r h;obtain⟨i,rfl,q⟩|⟨k,rfl,q⟩:_:=h
 ·obtain⟨u,rfl,t,rfl⟩:=vals1 r;exact call_int_int ⟨.int i,H,I,⟨_,rfl⟩,q⟩
 ·obtain⟨u,rfl,r1⟩:=vals1 r;cases r1;exact call_int_bool ⟨.int (if k then 1 else 0),H,I.tok _,⟨_,rfl⟩,q⟩
end
structure pX (h:Heap) (x dx C:adV) (mA:Str->Option vn):Prop where
 obj:h.get? x=some (instObj C dx)
 ns:h.Ns1 dx mA
 ne:dx≠x
theorem WU {h:Heap}(n:h.Ns1 dx mA):∃od,h.get? dx=some od/\∀name,lookIn name od=some (mA name):=by
 obtain⟨o,es,ep,ho,hd,hk,_,hm⟩:_:=n;refine⟨o,ho,λname=>?_⟩;have e:=hm name;unfold nsFind findBy at e;rw[<- Array.find?_toList]at e;unfold lookIn;rw[hd];dsimp only;split
 ·simp_all
 ·rename_i q
  have a:es.toList.any (·.refKey)=false:=by
   rw[List.any_eq_false];intro y hy;obtain⟨z,t,acJ⟩:=hk y (Array.mem_toList_iff.mp hy);simp[DictEntry.refKey,acJ]
  grind
theorem pX.look (I:pX h x dx C mA):∃od,PySem.W.InstAt h x (instObj C dx) C (some od)/\∀name,lookIn name od=some (mA name):=
 by obtain⟨od,ho,hl⟩:=WU I.ns;exact⟨od,⟨I.obj,rfl,rfl,ho⟩,hl⟩
section
variable {s:adX}{K:Frag}
theorem get_map (X:K.In s.heap)(I:pX s.heap x dx C mA)(hg:plainGet K C name=true)(hh:hasDictIn K C=true)(ha:findIn K (.ref C) name=some none)(hv:mA name=some v)(lY:PySem.W.handedIn v=true)(h:Q v {s with toks:=s.toks+1}):
  wpAny (model prog w) A (getAttr (.ref x) name expr) Q E s:=by
 obtain⟨od,J,hl⟩:_:=I.look;exact PySem.W.get_value X J (afq hg).1 (PySem.W.findObj_own hh ha rfl 'J') lY h
theorem XG (X:K.In s.heap)(I:pX s.heap x dx C mA)(hg:plainGet K C name=true)(hf:findIn K (.ref C) name=some (some (.ref f)))(ht:isFn K (.ref f)=true)(hv:mA name=none)(h:Q (.ref f,[.ref x]) s):
  wpAny (model prog w) A (getMethod (.ref x) name pl) Q E s:=by
 obtain⟨od,J,hl⟩:_:=I.look;exact PySem.W.method_fn X J (afq hg).1 (afq hg).2 hf (Cc.mp ht) (by show(lookIn name od).map (·.isSome)=some false;rw[hl,hv];rfl) h
theorem YY (X:K.In s.heap)(I:pX s.heap x dx C mA)(hs:findIn K (.ref C) "__setattr__"=some (some (.builtin "object.__setattr__")))(hp:PySem.W.plainOver K C=true)(ht:PySem.W.takerIn K C name=some none)(hh:hasDictIn K C=true)(hw:PySem.Within mA ns)(cT:ns.length<=sizeLine)(h:∀h',pX h' x dx C (λy=>if y=name then some v else mA y)->Heap.SameBut dx s.heap h'->Q () {s with heap:=h',toks:=s.toks+2}):
  wpAny (model prog w) A (setAttr (.ref x) name v) Q E s:=by
 obtain⟨od,J,hl⟩:_:=I.look;refine PySem.W.set_plain X J hs (PySem.W.osa_open X J hp ht λb=>?_);obtain⟨cd,hc,qw⟩:_:=PySem.W.any_some hh;have hx:=I.obj;refine ar (wpAny_pure (ar (ar (wpAny_loadPart hx (ar (PySem.W.Looks.here (PySem.W.looks_clsIn X hc) ?_))))));rw[qw];refine wpAny_pure (ar (wpAny_pure (ar ?_)));refine wpAny_nsSet1 I.ns λh' Ae dq=>?_
 obtain⟨oD,esD,epD,hoD,hdD,hcD⟩:_:=Ae.count (PySem.Within.cons name v hw);refine ar (wpAny_lookBehind hoD (by rw[hdD];exact pastItsLine_dict (Cs hcD 'J')) ?_);exact wpAny_pure (h _ ⟨(dq.2 _ (ad7 I.ne)).trans I.obj,Ae,I.ne⟩ dq)
theorem XH (X:K.In s.heap)(hm:PySem.W.makesIn K C=true)(hi:findIn K (.ref C) "__init__"=some (some (.ref f)))(hf:PySem.W.typeIn K (.ref f)=some (.type "function"))(h:codeAny (model prog w) (A.under (.builtin "type.__call__" ⟨.ref C::vs,kw⟩)) (.call (.ref f) ⟨.ref (s.heap.objs.size+1)::vs,kw⟩) (PySem.W.InitBack (s.heap.objs.size+1) R)
   {s with heap:=(s.heap.push emptyDict).push (instObj C s.heap.objs.size)}):
  codeAny (model prog w) A (.call (.ref C) ⟨vs,kw⟩) R s:=by
 obtain⟨hh,g,d,t,os⟩:=s;exact PySem.W.make_core (PySem.W.makes_of X hm) (PySem.W.looks_findIn X hi) (λself=>PySem.W.bind_fn X self hf) (.inl rfl) h
end
def gJ (f:Str)(v:V):List (Str×V)->List (Str×V)
 |[] => [(f,v)]
 |(g,x)::r=>if g=f then (g,v)::r else (g,x)::gJ f v r
theorem Jh (f g:Str)(v:V):∀fs,(gJ f v fs).lookup g=if g=f then some v else fs.lookup g
 |[] => by
  show List.lookup g [(f,v)]=_
  grind
 |(k,x)::r=>by
  have ih:=Jh f g v r;rw[show gJ f v ((k,x)::r)=(if k=f then (k,v)::r else (k,x)::gJ f v r)from rfl]
  grind
theorem BZ (f:Str)(v:V):∀fs,f∈(gJ f v fs).map (·.1)/\∀g,g∈fs.map (·.1)->g∈(gJ f v fs).map (·.1)
 |[] => ⟨by simp[gJ],λg h=>by simp at h⟩
 |(k,x)::r=>by
  obtain⟨i1,i2⟩:=BZ f v r;rw[show gJ f v ((k,x)::r)=(if k=f then (k,v)::r else (k,x)::gJ f v r)from rfl]
  grind
theorem Ji (f:Str)(v:V):∀fs,(gJ f v fs).length<=fs.length+1
 |[] => by simp[gJ]
 |(k,x)::r=>by
  have ih:=Ji f v r;rw[show gJ f v ((k,x)::r)=(if k=f then (k,v)::r else (k,x)::gJ f v r)from rfl]
  grind
theorem nh.some_of (r:nh (some v) o):∃u,o=some u/\RelV v u:=by
 cases o with
 |none=>exact(r).elim
 |some u=>exact⟨u,rfl,r⟩
theorem nh.none_of (r:nh none o):o=none:=by
 cases o with
 |none=>rfl
 |some u=>exact(r).elim
theorem WV (r:RelV v u):PySem.W.handedIn u=true:=by
 cases v with
 |aW=>cases (r);rfl
 |bl b=>cases (r);rfl
 |int i=>obtain⟨t,e⟩:=(r);cases e;rfl
 |str x=>obtain⟨t,e⟩:=(r);cases e;rfl
 |jA b=>obtain⟨t,e⟩:=(r);cases e;rfl
 |oF b=>obtain⟨t,e⟩:=(r);cases e;rfl
 |ref a=>cases (r);rfl
 |ty n=>cases (r);rfl
section
theorem yr (aL:dU P w H h)(e:H a=some (.ins C dx fs)):∃mA,pX h a dx C mA/\(∀f,nh (fs.lookup f) (mA f))/\PySem.Within mA (fs.map (·.1))/\fs.length<=1000/\H dx=some (.own a):=by
 obtain⟨d,z,ne,ob,mA,n,r,q⟩:_:=(aL a _ e)
 exact⟨mA,⟨ob,n,ne⟩,r,q,z,d⟩
end
structure i3 (K:Frag) (C:adV):Prop where
 pg:plainGet K C Str.empty=true
 hd:hasDictIn K C=true
 po:PySem.W.plainOver K C=true
 sa:findIn K (.ref C) "__setattr__"=some (some (.builtin "object.__setattr__"))
theorem i3.get {K:Frag}{C:adV}(c:i3 K C)(f:Str):plainGet K C f=true:=c.pg
def jL (K:Frag)(C:adV)(f:Str):Prop:=findIn K (.ref C) f=some none
theorem jL.abY {K:Frag}(n:jL K C f):PySem.W.takerIn K C f=some none:=by
 unfold PySem.W.takerIn;rw[n]
 rfl
structure Meth (K:Frag) (C:adV) (m:Str) (f:adV):Prop where
 at_:findIn K (.ref C) m=some (some (.ref f))
 fn:isFn K (.ref f)=true
 kp:keepIn K (.ref f)=true
section
variable {σ:St}
theorem V4 (I:Inv X pins σ H s)(e:H a=some (.ins C dx fs))(c:i3 X.K C)(n:jL X.K C f)(l:fs.lookup f=some v)(h:∀u s',Inv X pins σ H s'->RelV v u->Q u s'):wpAny (model X.prog X.w) A (getAttr (.ref a) f b) Q E s:=by
 obtain⟨mA,O,r,_,_,_⟩:_:=yr I.aL e;obtain⟨u,hu,ru⟩:_:=nh.some_of (by rw[<- l];exact r f);exact get_map I.dw O (c.get f) c.hd n hu (WV ru) (h u _ (I.tok _) ru)
theorem Jm (I:Inv X pins σ H s)(e:H a=some (.ins C dx fs))(c:i3 X.K C)(k:Meth X.K C m g)(l:fs.lookup m=none)(h:Q (.ref g,[.ref a]) s):wpAny (model X.prog X.w) A (getMethod (.ref a) m pl) Q E s:=by
 obtain⟨mA,O,r,_,_,_⟩:_:=yr I.aL e;have hn:mA m=none:=nh.none_of (by grind);exact XG I.dw O (c.get m) k.at_ k.fn hn h
theorem V5 (I:Inv X pins σ H s)(e:H a=some (.ins C dx fs))(c:i3 X.K C)(n:jL X.K C f)(hl:fs.length<1000)(ry:RelV y u)(h:∀s',Inv X pins σ (upd H a (.ins C dx (gJ f y fs))) s'->Q () s'):wpAny (model X.prog X.w) A (setAttr (.ref a) f u) Q E s:=by
 obtain⟨mA,O,r,wi,_,ho⟩:_:=yr I.aL e;have hz:(fs.map (·.1)).length<=sizeLine:=by rw[aa,afW];lia
 refine YY I.dw O c.sa c.po n.abY c.hd wi hz λh' O' sb=>h _ ?_
 have hd:∃o,h'.get? dx=some o:=by obtain⟨o,_,_,e',_⟩:_:=O'.ns;exact⟨o,e'⟩
 refine I.write (by rw[e];exact True.intro) (.inr ho) (λb q hb z=>(sb.2 b hb).trans z) hd ?_;refine⟨by rw[aQ O.ne];exact ho,?_,O.ne,O'.obj,_,O'.ns,λg=>?_,λg hg=>?_⟩
 ·have:=Ji f y fs;lia
 ·rw[Jh];by_cases q:g=f
  ·rw[uu q,uu q];exact ry
  ·simp_all
 ·by_cases q:g=f
  ·rw[q];exact(BZ f y fs).1
  ·refine(BZ f y fs).2 g (wi g λz=>hg ?_)
   simp_all
theorem Inv.made (I:Inv X pins σ H s):Inv X pins σ (upd (upd H s.heap.objs.size (.own (s.heap.objs.size+1))) (s.heap.objs.size+1) (.ins C s.heap.objs.size []))
  {s with heap:=(s.heap.push emptyDict).push (instObj C s.heap.objs.size)}:=by
 have e1:(s.heap.push emptyDict).get? s.heap.objs.size=some emptyDict:=BS s.heap rfl;have e2:((s.heap.push emptyDict).push (instObj C s.heap.objs.size)).get? (s.heap.objs.size+1)=some (instObj C s.heap.objs.size):=by
  have:=BS (s.heap.push emptyDict) (o:=instObj C s.heap.objs.size) rfl
  simp_all
 have e3:(s.heap.push emptyDict).Ns s.heap.objs.size (λ_=>none):=⟨emptyDict,#[],_,e1,rfl,(λe he=>absurd he 'Y'),λ_=>rfl⟩
 have I1:=I.laid (o:=.own (s.heap.objs.size+1)) (h':=s.heap.push emptyDict) (t':=s.toks) (λb u q=>mf _ q) (br _) ⟨_,e1⟩;refine I1.laid (t':=s.toks) (λb u q=>mf _ q) (af5 (ae1 _ _)) ?_;have ne:s.heap.objs.size≠s.heap.objs.size+1:=AN (ae7 _);refine⟨by rw[aQ ne,bQ],AM _,ne,e2,λ_=>none,(Heap.Ns1.of_empty e3).at λo q=>mf _ q,λ_=>True.intro,λy hy=>absurd rfl hy⟩
theorem YZ (hb:attributeBase e f env (eval e env)=eval e env)(h:wpAny (model prog w) A (eval e env) (λo bz=>wpAny (model prog w) A (getAttr o f true) Q E bz) E s):wpAny (model prog w) A (eval (.Attribute e f pos) env) Q E s:=
 Attribute_any_ h (by rw[arm_eval_Attribute,hb])
end
def P6 (K:Frag)(ta:TE)(f:Str):TE:=λσ H Q=>ta σ H λx H1=>∃a C dx fs v,x=.ref a/\H1 a=some (.ins C dx fs)/\i3 K C/\jL K C f/\fs.lookup f=some v/\Q v H1
def P7 (K:Frag)(ta tv:TE)(f:Str):TS:=λD σ H=>tv σ H λy H1=>ta σ H1 λx H2=>∃a C dx fs,x=.ref a/\H2 a=some (.ins C dx fs)/\i3 K C/\jL K C f/\fs.length<1000 /\
 D.nx σ (upd H2 a (.ins C dx (gJ f y fs)))
section
theorem mV (he:PE X e ta)(hb:attributeBase e f X.env (eval e X.env)=eval e X.env):PE X (.Attribute e f pos) (P6 X.K ta f):=by
 intro pins s σ H Q I h;refine YZ hb (aE (he pins s σ H _ I h) λu s1 z9=>?_);obtain⟨x,H1,I1,rx,a,C,dx,fs,v,ex,ea,c,n,l,q⟩:=z9;subst ex;obtain rfl:u=Value.ref a:=rx;exact V4 I1 ea c n l λu' s2 I2 ru=>⟨v,H1,I2,ru,q⟩
theorem su (ha:PE X o ta)(hv:PE X value tv)(hs:swapsWith value (some (.Attribute o f pos')) pos.line X.env=pure false):PS X (.Assign [.Attribute o f pos'] value pos) (P7 X.K ta tv f):=by
 intro pins s σ H D I h;refine plainObj_wpAny_Assign_Attribute (aE (hv pins s σ H _ I h) λu s1 ⟨y,H1,I1,ry,q⟩=>aE (ha pins s1 σ H1 _ I1 q) λov s2 z9=>?_) hs;obtain⟨x,H2,I2,rx,a,C,dx,fs,ex,ea,c,n,l,q2⟩:=z9;subst ex;obtain rfl:ov=Value.ref a:=rx;exact V5 I2 ea c n l ry λs3 I3=>⟨σ,_,I3,q2⟩
end
section
variable {σ:St}
inductive jQ (K:Frag) (H:Hp):V->vn->Prop where
 |aW:jQ K H .aW (.type "NoneType")
 |bl (x:Bool):jQ K H (.bl x) (.type "bool")
 |int (i:Int):jQ K H (.int i) (.type "int")
 |str (x:Str):jQ K H (.str x) (.type "str")
 |oF (x:UInt64):jQ K H (.oF x) (.type "float")
 |lst {a:adV} {xs:List V} (e:H a=some (.lst xs)):jQ K H (.ref a) (.type "list")
 |dM {a:adV} {o:Obj} {xs:List V} (e:H a=some (.dM o (.lst xs))):jQ K H (.ref a) (.type "list")
 |tup {a:adV} {xs:List V} (e:H a=some (.tup xs)):jQ K H (.ref a) (.type "tuple")
 |dK {a:adV} {eu:List (Key×V)} (e:H a=some (.dK eu)):jQ K H (.ref a) (.type "dict")
 |dT {a:adV} {eu:List (List Key×V)} (e:H a=some (.dT eu)):jQ K H (.ref a) (.type "dict")
 |ins {a C dx:adV} {fs:List (Str×V)} (e:H a=some (.ins C dx fs)) (cl:i3 K C) (ha:findIn K (.ref C) "__class__"=some (some (.builtin "object.__class__")))
   (hn:PySem.W.specialIn K (.builtin "object.__class__") "__get__"=some (some (.builtin "getset_descriptor.__get__"))) (QV:PySem.W.takesIn K (.builtin "object.__class__")=some true)
   (hm:PySem.W.mroIn K C (.type "object")=some true):jQ K H (.ref a) (.ref C)
theorem xR (I:Inv X pins σ H s)(rx:RelV x u)(ty:jQ X.K H x t)(e:PySem.W.kitOne X.K t c=some b)(h:∀tk,Q (.bool b) {s with toks:=tk}):
  wpAny (model X.prog X.w) A (call (.builtin "isinstance") [u,c]) Q E s:=by
 cases ty with
 |aW=>cases (rx);exact ae8 PySem.W.kitx_none I.dw True.intro e (λz=>nomatch z) h
 |bl y=>cases (rx);exact ae8 PySem.W.kitx_bool I.dw True.intro e (λz=>nomatch z) h
 |int i=>obtain⟨t,q⟩:=(rx);cases q;exact ae8 PySem.W.kitx_int I.dw True.intro e (λz=>nomatch z) h
 |str y=>obtain⟨t,q⟩:=(rx);cases q;exact ae8 PySem.W.kitx_str I.dw True.intro e (λz=>nomatch z) h
 |oF y=>obtain⟨t,q⟩:=(rx);cases q;exact ae8 PySem.W.kitx_float I.dw True.intro e (λz=>nomatch z) h
 | @lst a xs ea=>
  cases (rx)
  obtain⟨_,_,n,_,h1⟩:=(I.aL a _ ea)
  exact ae8 afP I.dw ⟨_,h1,rfl⟩ e (λz=>nomatch z) h
 | @dM a ob xs ea=>
  cases (rx)
  obtain⟨_,_,_,n,_,h1⟩:_:=(I.aL a _ ea)
  exact ae8 afP I.dw ⟨_,h1,rfl⟩ e (λz=>nomatch z) h
 | @tup a xs ea=>
  cases (rx)
  obtain⟨_,_,_,p⟩:=(I.aL a _ ea)
  obtain⟨o,h1,h2,_⟩:=p;exact ae8 PySem.W.kitx_tuple I.dw ⟨o,h1,h2⟩ e (λz=>nomatch z) h
 | @dK a eu ea=>
  cases (rx)
  obtain⟨_,_,vs,_,p⟩:=(I.aL a _ ea)
  obtain⟨o,es,ep,h1,h2,_⟩:=p;exact ae8 PySem.W.kitx_dict I.dw ⟨o,h1,h2.1⟩ e (λz=>nomatch z) h
 | @dT a eu ea=>
  cases (rx)
  obtain⟨_,_,xs,_,o,es,ep,h1,h2,_⟩:=(I.aL a _ ea)
  exact ae8 PySem.W.kitx_dict I.dw ⟨o,h1,h2.1⟩ e (λz=>nomatch z) h
 | @ins a C dx fs ea cl ha hn QV hm=>
  cases (rx)
  obtain⟨mA,O,_⟩:=yr I.aL ea;obtain⟨od,J,_⟩:_:=O.look;exact ae8 (PySem.W.kitx_own (cl.get _) cl.hd ha hn QV hm) I.dw J e (λz=>nomatch z) h
end
structure dv (k:Nat) (A:Around):Prop where
 hd:A.handled=none
 dp:A.depth+3*k+5<recursionLimit
 un:A.units+16*k+200<cLine
theorem dv.mono (r:dv k A)(h:j<=k):dv j A:=⟨r.hd,by have:=r.dp;lia,by have:=r.un;lia⟩
theorem dv.deeper (r:dv (k+1) A)(env:Env):dv k (A.deeper env):=
 ⟨r.hd,by have:=r.dp;show A.depth+1+3*k+5<_;lia,by have:=r.un;show A.units+3+16*k+200<_;lia⟩
theorem V6 {A:Around}:(A.under (.builtin "type.__call__" ⟨.ref C::us,kw⟩)).depth=A.depth+1:=by
 first|rfl|simp[Around.under]
theorem V7 {A:Around}:(A.under (.builtin "type.__call__" ⟨.ref C::us,kw⟩)).units=A.units+1:=by
 first|rfl|simp[Around.under]
theorem dv.make (r:dv (k+1) A)(C:adV)(us:List vn)(kw:List (Str×vn)):dv k (A.under (.builtin "type.__call__" ⟨.ref C::us,kw⟩)):=
 ⟨r.hd,by have:=r.dp;rw[V6];lia,by have:=r.un;rw[V7];lia⟩
theorem dv.depth (r:dv k A):A.depth<recursionLimit:=by have:=r.dp;lia
theorem dv.units (r:dv k A):A.units+64<cLine:=by have:=r.un;lia
def d8:TA:=λ_ H Q=>Q [] H
def dH (ta:TE)(tr:TA):TA:=λσ H Q=>ta σ H λx H1=>tr σ H1 λxs H2=>Q (x::xs) H2
section
theorem cR:PA X [] d8:=λ_ _ _ _ H Q I h=>Calls.spliced_nil ⟨[],H,I,.nil,h⟩
theorem cm (ha:PE X e te)(hr:PA X es t)(hs:starEach (e::es) X.env=(false,eval e X.env)::starEach es X.env:=by rfl):PA X (e::es) (dH te t):=by
 intro pos pins s σ H Q I h;rw[hs];refine Calls.spliced_cons (aE (ha pins s σ H _ I h) λu s1 z9=>?_);obtain⟨x,H1,I1,r1,q1⟩:=z9;exact aE (hr pos pins s1 σ H1 _ I1 q1) λus s2 z9=>by obtain⟨xs,H2,I2,r2,q2⟩:_:=z9;exact⟨x::xs,H2,I2,.cons r1 r2,q2⟩
def FT (t:TA):TE:=λσ H Q=>t σ H λxs H1=>xs.length<=sizeLine/\∀p,H1 p=none->Q (.ref p) (upd H1 p (.tup xs))
def P8 (t:TA):TE:=λσ H Q=>t σ H λxs H1=>xs.length<=sizeLine/\∀p,H1 p=none->Q (.ref p) (upd H1 p (.lst xs))
theorem DK (h:PA X es t):PE X (.Tuple es x1 pos) (FT t):=by
 intro pins s σ H Q I hq;refine wpAny_Tuple_spliced (aE (h pos pins s σ H _ I hq) λus s1 ⟨xs,H1,I1,r,z,q⟩=>⟨by rw[<- r.length];exact z,?_⟩);have hf:=I1.aL.fresh (br _);refine⟨.ref s1.heap.objs.size,upd H1 s1.heap.objs.size (.tup xs),I1.laid (t':=s1.toks) (λb u e=>mf _ e) (br _) ?_,rfl,q _ hf⟩;exact⟨z,us,r,⟨_,BS _ rfl,rfl,_,rfl⟩⟩
theorem DL (h:PA X es t):PE X (.List es pos) (P8 t):=by
 intro pins s σ H Q I hq;refine wpAny_List_spliced (aE (h pos pins s σ H _ I hq) λus s1 ⟨xs,H1,I1,r,z,q⟩=>⟨by rw[<- r.length];exact z,?_⟩);have hf:=I1.aL.fresh (br _);refine⟨.ref s1.heap.objs.size,upd H1 s1.heap.objs.size (.lst xs),I1.laid (t':=s1.toks) (λb u e=>mf _ e) (br _) ?_,rfl,q _ hf⟩;exact⟨z,us,0,r,BS _ rfl⟩
end
abbrev Sp:=List V->Hp->VK->XK->Prop
abbrev qC:=List Env->Hp->adX->XK->vn->adX->Prop
structure pY (P:agc) (w:agd) (K:Frag) (mg:Str->Option vn) (base:Heap) (A:Around) (outer:List Env) (s:adX) (H:Hp):Prop where
 frames:A.frames=some outer
 mod:Mod K mg base
 bs:∀b o,base.get? b=some o->s.heap.get? b=some o/\H b=none
 oG:base.objs.size<=s.heap.objs.size
 jP:s.heap.FunFrames base outer
 qp:∀b∈fH outer,H b=none
 aL:dU P w H s.heap
 bare:AllBare s.gens
def CE (outer:List Env)(P:agc)(w:agd)(H:Hp)(s:adX)(Q:VK)(u:vn)(s':adX):Prop:=
 ∃v H',s'.os=s.os/\AllBare s'.gens/\Un (fH outer) [] H H' s.heap s'.heap/\dU P w H' s'.heap/\RelV v u/\Q v H'
def CR (CX:qC)(outer:List Env)(P:agc)(w:agd)(H:Hp)(s:adX)(Q:VK)(E:XK)(r:Result)(s':adX):Prop:=
 match r with
 | .ok (.ret u)=>CE outer P w H s Q u s'
 | .ok _=>False
 | .error e=>CX outer H s E e s'
structure bS (P:agc) (w:agd) (K:Frag) (mg:Str->Option vn) (base:Heap) (CX:qC) (k:Nat) (f:adV) (fd:FuncData) (ps:List Str) (sp:Sp):Prop where
 len:∀vs H Q E,sp vs H Q E->vs.length=ps.length
 run:∀(A:Around) (outer:List Env) (s:adX) (H:Hp) (args:Args) (us:List vn) (vs:List V) (Q:VK) (E:XK),dv k A->pY P w K mg base A outer s H->BindsTo s fd args (ps.zip us)->Vals vs us->sp vs H Q E ->
  codeAny (model P w) A (.call (.ref f) args) (CR CX outer P w H s Q E) s
theorem bS.imp {K:Frag}(F:bS P w K mg base CX k f fd ps sp)(h:∀vs H Q E,sp' vs H Q E->sp vs H Q E):bS P w K mg base CX k f fd ps sp':=
 ⟨λvs H Q E q=>F.len vs H Q E (h _ _ _ _ q),λA outer s H args us vs Q E hr he hb hv hs=>F.run A outer s H args us vs Q E hr he hb hv (h _ _ _ _ hs)⟩
theorem pY.make {K:Frag}(e:pY P w K mg base A outer s H)(C:adV)(us:List vn)(kw:List (Str×vn)):
  pY P w K mg base (A.under (.builtin "type.__call__" ⟨.ref C::us,kw⟩)) outer s H:=⟨by first|exact e.frames|(simpa [Around.under]using e.frames),e.mod,e.bs,e.oG,e.jP,e.qp,e.aL,e.bare⟩
section
variable {σ:St}
theorem Inv.P9 (I:Inv X pins σ H s):pY X.prog X.w X.K X.mg X.base X.A X.stack s H:=
 ⟨I.ok.frames,I.ok.mod,I.bs,Cs I.ok.oG I.sz,I.stack,I.KH,I.aL,I.bare⟩
theorem Inv.after (I:Inv X pins σ H s)(h:CE X.stack X.prog X.w H s Q u s'):EP X pins σ Q u s':=by
 obtain⟨v,H',os,bare,un,aL,r,q⟩:_:=h;obtain⟨hh,g,d,t,os'⟩:=s';obtain rfl:os'=s.os:=os;exact⟨v,H',I.call (h':=hh) (g':=g) (d':=d) (t':=t) un aL bare (λb z=>absurd z 'Y'),r,q⟩
end
def sR (sp:Sp)(fV:List V)(E:XK)(t:TA):TE:=λσ H Q=>t σ H λvs H1=>sp (vs++fV) H1 Q E
def zq (C:adV)(m:Str)(sp:Sp)(fV:List V)(E:XK)(ta:TE)(t:TA):TE:=λσ H Q=>ta σ H λx H1=>∃a dx fs,x=.ref a/\H1 a=some (.ins C dx fs)/\fs.lookup m=none /\
 t σ H1 λvs H2=>sp (x::(vs++fV)) H2 Q E
def abZ (C:adV)(sp:Sp)(fV:List V)(E:XK)(t:TA):TE:=λσ H Q=>t σ H λvs H1=>∀x dx,H1 x=none->H1 dx=none->dx≠x ->
 sp (.ref x::(vs++fV)) (upd (upd H1 dx (.own x)) x (.ins C dx [])) (λv H2=>v=.aW/\Q (.ref x) H2) E
def Binds (K:Frag)(fd:FuncData)(ps:List Str)(ds:List vn):Prop:=
 ∀(s:adX) (us:List vn),K.In s.heap->(us++ds).length=ps.length->BindsTo s fd ⟨us,[]⟩ (ps.zip (us++ds))
theorem Binds.all {K:Frag}(h:∀us,us.length=ps.length->bindArgs fd ⟨us,[]⟩=pure (ps.zip us)):Binds K fd ps []:=λs us _ hl=>by
 rw[AS]at hl ⊢;exact .of_eq (h us hl)
def Passes (CX:qC)(X:Cx)(E:XK):Prop:=∀(pins:List (adV×Obj)) (σ:St) (H:Hp) (s:adX) (e:vn) (s':adX),Inv X pins σ H s->CX X.stack H s E e s'->X.xe e s'
section
variable {p pos apos:Pos}
theorem DM {σ:St}(F:bS X.prog X.w X.K X.mg X.base CX k f fd ps sp)(hr:dv k X.A)(hb:Binds X.K fd ps ds)(hd:Vals fV ds)(hx:Passes CX X E)(I:Inv X pins σ H s)(r:Vals vs us)(h:sp (vs++fV) H Q E):wpAny (model X.prog X.w) X.A (call (.ref f) us) (EP X pins σ Q) X.xe s:=by
 have r2:=r.append hd;have hl:(us++ds).length=ps.length:=by rw[<- r2.length];exact F.len _ _ _ _ h
 refine wpAny_call (ae6 (F.run X.A X.stack s H ⟨us,[]⟩ (us++ds) (vs++fV) Q E hr I.P9 (hb s us I.dw hl) r2 h) λr s' hq=>?_);cases r with
 |error e=>exact hx pins σ H s e s' I hq
 |ok fl=>
  cases fl with
  |ret u=>exact I.after hq
  |next=>exact False.elim hq
  |brk=>exact False.elim hq
  |cont=>exact False.elim hq
theorem KP (F:bS X.prog X.w X.K X.mg X.base CX k f fd ps sp)(hr:dv k X.A)(hg:Gl X x)(hm:X.mg x=some (.ref f))(hk:keepIn X.K (.ref f)=true)(hb:Binds X.K fd ps ds)(hd:Vals fV ds)(hx:Passes CX X E)(ha:PA X (e::es) t)(eE:(x==("__debug__":Str))=false:=by decide)(he:starEach (e::es) X.env=(false,eval e X.env)::starEach es X.env:=by rfl)(cJ:(backTo pos (starEach es X.env)).any (·.1)=false:=by rfl):
  PE X (.Call (.Name x p) (e::es) [] pos) (sR sp fV E t):=by
 intro pins s σ H Q I h;refine aeI (C1 I hg hm ?_ eE);refine afx I.ok.mod.vV hk (aE (ha pos pins s σ H _ I h) λus s1 ⟨vs,H1,I1,r,q⟩=>⟨I1.dw,?_⟩) he cJ;exact DM F hr hb hd hx I1 r q
theorem C4 {pl:Sem Bool}(he:PE X o ta)(c:i3 X.K C)(hm:Meth X.K C m f)(F:bS X.prog X.w X.K X.mg X.base CX k f fd ps sp)(hr:dv k X.A)(hb:Binds X.K fd ps ds)(hd:Vals fV ds)(hx:Passes CX X E)(ha:PA X (e::es) t)(iG:starEach (e::es) X.env=(false,eval e X.env)::starEach es X.env:=by rfl)(cJ:(backTo pos (starEach es X.env)).any (·.1)=false:=by rfl)(ht:eval (.Call (.Attribute o m apos) (e::es) [] pos) X.env=(do
   let ov<-eval o X.env
   standAt apos.atName
   let (f,first)<-holding [ov] (getMethod ov m pl)
   callWith pos f first (backTo pos (starEach (e::es) X.env)) (backToKw pos (keywordEach [] X.env))):=by rfl):
  PE X (.Call (.Attribute o m apos) (e::es) [] pos) (zq C m sp fV E ta t):=by
 intro pins s σ H Q I h;refine PySem.W.methodCall_KW (aE (he pins s σ H _ I h) λu s1 z9=>?_) ht;obtain⟨x,H1,I1,rx,a,dx,fs,ex,ea,l,q⟩:=z9;subst ex;obtain rfl:u=Value.ref a:=rx;refine Jm I1 ea c hm l ?_;refine afx I.ok.mod.vV hm.kp (aE (ha pos pins s1 σ H1 _ I1 q) λus s2 ⟨vs,H2,I2,r,q2⟩=>⟨I2.dw,?_⟩) iG cJ;exact DM (vs:=.ref a::vs) F hr hb hd hx I2 (.cons rfl r) q2
theorem Cw (he:PE X o ta)(c:i3 X.K C)(hm:Meth X.K C m f)(F:bS X.prog X.w X.K X.mg X.base CX k f fd ps sp)(hr:dv k X.A)(hb:Binds X.K fd ps ds)(hd:Vals fV ds)(hx:Passes CX X E)(ht:eval (.Call (.Attribute o m apos) [] [] pos) X.env=(do
   let ov<-eval o X.env
   standAt apos.atName
   let (f,first)<-holding [ov] (getMethod ov m pl)
   callWith pos f first (backTo pos (starEach [] X.env)) (backToKw pos (keywordEach [] X.env))):=by rfl):
  PE X (.Call (.Attribute o m apos) [] [] pos) (zq C m sp fV E ta d8):=by
 intro pins s σ H Q I h;refine PySem.W.methodCall_KW (aE (he pins s σ H _ I h) λu s1 z9=>?_) ht;obtain⟨x,H1,I1,rx,a,dx,fs,ex,ea,l,q⟩:=z9;subst ex;obtain rfl:u=Value.ref a:=rx;refine Jm I1 ea c hm l ?_;exact PySem.W.callWith_K0 I1.dw hm.kp (DM (vs:=[.ref a]) F hr hb hd hx I1 (.cons rfl .nil) q)
structure Mk (K:Frag) (C f:adV):Prop where
 makes:PySem.W.makesIn K C=true
 init:findIn K (.ref C) "__init__"=some (some (.ref f))
 fn:isFn K (.ref f)=true
 kp:keepIn K (.ref C)=true
theorem XI {σ:St}(M:Mk X.K C f)(F:bS X.prog X.w X.K X.mg X.base CX k f fd ps sp)(hr:dv (k+1) X.A)(hb:Binds X.K fd ps ds)(hd:Vals fV ds)(hx:Passes CX X E)(I:Inv X pins σ H s)(r:Vals vs us)(h:∀x dx,H x=none->H dx=none->dx≠x->sp (.ref x::(vs++fV)) (upd (upd H dx (.own x)) x (.ins C dx [])) (λv H2=>v=.aW/\Q (.ref x) H2) E):
  wpAny (model X.prog X.w) X.A (call (.ref C) us) (EP X pins σ Q) X.xe s:=by
 have hq:=h (s.heap.objs.size+1) s.heap.objs.size (I.aL.fresh (ad8 _)) (I.aL.fresh (br _)) (AN (ae7 _));have I2:=Inv.made (C:=C) I;have r2:Vals (V.ref (s.heap.objs.size+1)::(vs++fV)) (Value.ref (s.heap.objs.size+1)::(us++ds)):=.cons rfl (r.append hd);have hl:(Value.ref (s.heap.objs.size+1)::us++ds).length=ps.length:=by
  have e:=r2.length;rw[F.len _ _ _ _ hq]at e
  simp_all
 refine wpAny_call (XH I.dw M.makes M.init (Cc.mp M.fn) (ae6 (F.run _ X.stack _ _ ⟨Value.ref (s.heap.objs.size+1)::us,[]⟩ (Value.ref (s.heap.objs.size+1)::(us++ds)) _ _ E (hr.make C us [])
  (I2.P9.make C us []) (hb _ (Value.ref (s.heap.objs.size+1)::us) I2.dw hl) r2 hq) λr s' nC=>?_))
 cases r with
 |error e=>exact hx pins σ _ _ e s' I2 nC
 |ok fl=>
  cases fl with
  |ret u=>
   obtain⟨v,H',I3,rv,ev,q3⟩:_:=I2.after nC;subst ev;exact⟨rv,⟨V.ref (s.heap.objs.size+1),H',I3,rfl,q3⟩⟩
  |next=>exact False.elim nC
  |brk=>exact False.elim nC
  |cont=>exact False.elim nC
theorem Y0 (M:Mk X.K C f)(F:bS X.prog X.w X.K X.mg X.base CX k f fd ps sp)(hr:dv (k+1) X.A)(hg:Gl X x)(hm:X.mg x=some (.ref C))(hb:Binds X.K fd ps ds)(hd:Vals fV ds)(hx:Passes CX X E)(ha:PA X (e::es) t)(eE:(x==("__debug__":Str))=false:=by decide)(he:starEach (e::es) X.env=(false,eval e X.env)::starEach es X.env:=by rfl)(cJ:(backTo pos (starEach es X.env)).any (·.1)=false:=by rfl):
  PE X (.Call (.Name x p) (e::es) [] pos) (abZ C sp fV E t):=by
 intro pins s σ H Q I h;refine aeI (C1 I hg hm ?_ eE);refine afx I.ok.mod.vV M.kp (aE (ha pos pins s σ H _ I h) λus s1 ⟨vs,H1,I1,r,q⟩=>⟨I1.dw,?_⟩) he cJ;exact XI M F hr hb hd hx I1 r q
end
theorem bT {p:Prop} [Decidable p](h:decide p=true:=by rfl):p:=GS h
structure aY (N P:List Str) (sc:Scope):Prop where
 kind:sc.kind=.function
 co:sc.isCoroutine=false
 gen:sc.isGenerator=false
 nd:N.Nodup
 pre:N.take P.length=P
 par:∀x∈P,sc.names.lookup x=some .local\/sc.names.lookup x=some .cell
 aaT:∀y∈sc.names,y.2≠.free
theorem scA {N P:List Str}{sc:Scope}(a:sc.kind=.function:=by rfl)(b:sc.isCoroutine=false:=by rfl)(c:sc.isGenerator=false:=by rfl)(d:N.Nodup:=by decide +kernel)(e:N.take P.length=P:=by rfl)(f:∀x∈P,sc.names.lookup x=some .local\/sc.names.lookup x=some .cell:=by decide +kernel)(g:∀y∈sc.names,y.2≠.free:=by decide +kernel):aY N P sc:=⟨a,b,c,d,e,f,g⟩
theorem Ju {kindOf:Str->Option NameKind}:∀{binds:List (Str×vn)} {m:Str->Option vn},(∀v,(x,v)∉binds)->bindL kindOf binds m x=m x
 |[],_,_=>rfl
 |(n,v)::r,m,h=>by
  unfold bindL;rw[Ju λw hw=>h w (Na _ hw)];split
  ·grind
  ·rfl
theorem Jv {kindOf:Str->Option NameKind}:∀{binds:List (Str×vn)} {m:Str->Option vn},(∀v,(x,v)∉binds)->bindC kindOf binds m x=m x
 |[],_,_=>rfl
 |(n,v)::r,m,h=>by
  unfold bindC;rw[Jv λw hw=>h w (Na _ hw)];split
  ·rfl
  ·grind
theorem Jw {kindOf:Str->Option NameKind}:∀{P:List Str} {vs:List vn} {i:Nat} {m:Str->Option vn},P.Nodup->P[i]?=some x->vs[i]?=some v->kindOf x=some .local ->
  bindL kindOf (P.zip vs) m x=some v
 |[],_,_,_,_,h,_,_=>by simp at h
 |_::_,[],_,_,_,_,h,_=>by simp at h
 |p::P,w::vs,0,m,nd,h1,h2,hk=>by
  simp at h1 h2;subst h1;subst h2;show bindL kindOf ((p,w)::P.zip vs) m p=_;unfold bindL;rw[Ju λv hv=>(AE.mp nd).1 (af6 hv).1,uu hk];simp
 |p::P,w::vs,i+1,m,nd,h1,h2,hk=>by
  show bindL kindOf ((p,w)::P.zip vs) m x=_;exact Jw (i:=i) (AE.mp nd).2 (by assumption) (by assumption) hk
theorem Jx {kindOf:Str->Option NameKind}:∀{P:List Str} {vs:List vn} {i:Nat} {m:Str->Option vn},P.Nodup->P[i]?=some x->vs[i]?=some v->kindOf x≠some .local ->
  bindC kindOf (P.zip vs) m x=some v
 |[],_,_,_,_,h,_,_=>by simp at h
 |_::_,[],_,_,_,_,h,_=>by simp at h
 |p::P,w::vs,0,m,nd,h1,h2,hk=>by
  simp at h1 h2;subst h1;subst h2;show bindC kindOf ((p,w)::P.zip vs) m p=_;unfold bindC;rw[Jv λv hv=>(AE.mp nd).1 (af6 hv).1,rf hk];simp
 |p::P,w::vs,i+1,m,nd,h1,h2,hk=>by
  show bindC kindOf ((p,w)::P.zip vs) m x=_;exact Jx (i:=i) (AE.mp nd).2 (by assumption) (by assumption) hk
def start (N:List Str)(vs:List V):St:=vs.map some++List.replicate (N.length-vs.length) none
def lN (CX:qC)(P:agc)(w:agd)(K:Frag)(mg:Str->Option vn)(base:Heap)(N:List Str)(qual:Str)(scope:Scope)(f:adV)(cd:vn)(A:Around)(outer:List Env)(s:adX)(H:Hp)(E:XK):Cx where
 prog:=P
 w:=w
 K:=K
 mg:=mg
 base:=base
 A:=A.deeper (envOfC qual scope s.heap.objs.size f cd)
 N:=N
 dZ:=s
 vB:=H
 env:=envOfC qual scope s.heap.objs.size f cd
 outer:=outer
 stack:=envOfC qual scope s.heap.objs.size f cd::outer
 ex:=[]
 calm:=true
 fn:=λ_=>true
 pn:=[]
 xe:=λe s'=>wpAny (model P w) (A.deeper (envOfC qual scope s.heap.objs.size f cd)) (leaving (envOfC qual scope s.heap.objs.size f cd) e) (λ_ GF=>CX outer H s E e GF) (λe' GF=>CX outer H s E e' GF) s'
theorem Cy {sc:Scope}(h:sc.names.lookup x=some .cell):∃c,(cellsFrom n sc.names []).lookup x=some c:=by
 have q:=PySem.W.cellsFrom_some sc.names n [] (.inl h);exact aeG.mp q
theorem WW {K:Frag}(S:aY N ps scope)(hd:A.handled=none)(e0:pY P w K mg base A outer s H)(hl:vs.length=ps.length)(r:Vals vs us)(x:InCallC s s.heap.objs.size (bindL (envOfC qual scope s.heap.objs.size f cd).kindOf (ps.zip us) λ_=>none) (cellsFrom (s.heap.objs.size+1) scope.names []) (bindC (envOfC qual scope s.heap.objs.size f cd).kindOf (ps.zip us) λ_=>none) s1):
  Inv (lN CX P w K mg base N qual scope f cd A outer s H E) [] (start N vs) H s1:=by
 have cJ:ps.length<=N.length:=by have:=congrArg List.length S.pre;rw[Lm]at this;lia
 obtain⟨h1,tk,rfl,hk⟩:=x.done;have wc:∀b,b∉(lN CX P w K mg base N qual scope f cd A outer s H E).ex:=λb z=>absurd (show b∈([])from z) 'Y'
 refine⟨⟨e0.mod,S.kind,rfl,rfl,br _,λy z c h1 h2=>?_,λy hy=>?_,λy c _ h=>?_,λ_=>hd,Around.frames_deeper e0.frames,.inr ⟨rfl,rfl⟩,λb z=>absurd z (wc b),e0.bs,e0.oG,λb _ _=>wc b,λb z=>absurd z (wc b),e0.jP,e0.qp⟩,
  rfl,e0.bare,Un.kept hk,⟨_,x.toInCall.ns,λi y v h1 h2 h3=>?_⟩,λy c h=>⟨_,x.cell y c h⟩,e0.aL.fresh (br _),λy c h=>?_,λp hp=>absurd (show p∈([])from hp) 'Y',e0.aL.kept hk,?_⟩
 ·exact name_of_addr x.apart (ad9 h1) (ad9 h2)
 ·obtain hy|hy:=hy
  ·exact Cy hy
  ·exact absurd rfl (S.aaT _ (ad9 hy))
 ·exact aeF (x.above y c (ad9 h))
 ·have hi:i<vs.length:=by
   unfold start at h2
   grind
  have ha:vs[i]?=some v:=by
   unfold start at h2
   grind
  obtain⟨u,hu,rv⟩:_:=r.get ha;have hp:ps[i]?=some y:=by
   rw[<- S.pre,List.getElem?_take_of_lt 'O'];exact h1
  have QW:ps.Nodup:=by rw[<- S.pre];exact S.nd.sublist (aeq _ _)
  refine⟨u,rv,?_⟩;obtain k|k:=S.par y (ba hp)
  ·exact .inl ⟨k,Jw QW hp hu k⟩
  ·obtain⟨c,e⟩:=Cy k;refine .inr ⟨.inl k,c,e,?_⟩;have q:=x.cell y c e;rw[Jx QW hp hu (by show scope.names.lookup y≠_;rw[k];decide)]at q;exact q
 ·exact e0.aL.fresh (aeF (x.above y c (ad9 h)))
 ·unfold start;show _=N.length
  simp_all
theorem ab0 {K:Frag}{kV:vn}(lk:K.lookup f=some ⟨oc,od,.func (fnOf name qual params body scope dV kV doc pm an aN ct),i5⟩)(jU:codeIn K aN qual=true)(S:aY N ps scope)(len:∀vs H Q E,sp vs H Q E->vs.length=ps.length)(EL:∀(A:Around) (outer:List Env) (s:adX) (H:Hp) (vs:List V) (Q:VK) (E:XK),dv k (A.deeper (envOfC qual scope s.heap.objs.size f aN))->sp vs H Q E ->
   ∃t,gC (lN CX P w K mg base N qual scope f aN A outer s H E) body t/\t {nx:=λ_ H'=>Q .aW H',rt:=Q} (start N vs) H):
  bS P w K mg base CX (k+1) f (fnOf name qual params body scope dV kV doc pm an aN ct) ps sp:=by
 refine⟨len,λA outer s H args us vs Q E hr e0 hb r oJ=>?_⟩;have hl:=len _ _ _ _ oJ;have KX:=e0.mod.vV.keeps λb o e=>(e0.bs b o e).1
 have lim:=e0.mod.nolimit.keeps λb o e=>(e0.bs b o e).1
 have ab1:∀y∈ps.zip us,scope.names.lookup y.1=some .local\/(scope.names.lookup y.1=some .cell/\((cellsFrom (s.heap.objs.size+1) scope.names []).lookup y.1).isSome=true):=λ⟨n,v⟩ hy=>by
  obtain q|q:=S.par n (af6 hy).1
  ·exact .inl q
  ·exact .inr ⟨q,PySem.W.cellsFrom_some _ _ _ (.inl q)⟩
 refine codeAny_call_function hr.depth (KX _ _ lk) rfl S.co S.gen rfl (PySem.W.codeRec_of KX jU) (hb _ _ _ _ ?_);refine wpAny_newFunctionEnv_cells S.kind ab1 λenv he s1 x=>?_
 subst he;refine⟨lim.keeps x.toInCall.keep,codeAny_func ?_⟩;obtain⟨t,ht,hq⟩:_:=EL A outer s H vs Q E (hr.deeper _) oJ;have I:Inv (lN CX P w K mg base N qual scope f aN A outer s H E) [] (start N vs) H s1:=WW S hr.hd e0 hl r x;refine afn (ht [] s1 (start N vs) H _ I hq) (λfl s' hs=>?_) λe s' hs=>hs
 have fin:∀{aD:St} {H':Hp} {v:V} {u:vn},Inv (lN CX P w K mg base N qual scope f aN A outer s H E) [] aD H' s'->RelV v u->Q v H'->CE outer P w H s Q u s':=
  λ{aD H' v u} J rv q=>⟨v,H',J.os,J.bare,J.base,J.aL,rv,q⟩
 cases fl with
 |ret u=>
  obtain⟨v,aD,H',J,rv,q⟩:_:=hs;exact fin J rv q
 |next=>
  obtain⟨aD,H',J,q⟩:=hs;exact fin (v:=V.aW) J rfl q
 |brk=>
  obtain⟨_,_,_,q⟩:=hs;exact False.elim q
 |cont=>
  obtain⟨_,_,_,q⟩:=hs;exact False.elim q
section
variable {p pos:Pos}{id:String}
def lZ (r:List V->Hp->VK->Prop)(t:TA):TE:=λσ H Q=>t σ H λvs H1=>r vs H1 Q
theorem um (hc:eY X (.builtin id) r)(hg:Gl X x)(hm:X.mg x=none)(hv:bootBuiltins x=some (.builtin id))(ha:PA X (e::es) t)(hn:x ≠ "__name__":=by decide)(eE:(x==("__debug__":Str))=false:=by decide)(he:starEach (e::es) X.env=(false,eval e X.env)::starEach es X.env:=by rfl)(cJ:(backTo pos (starEach es X.env)).any (·.1)=false:=by rfl):PE X (.Call (.Name x p) (e::es) [] pos) (lZ r t):=by
 intro pins s σ H Q I h;refine aeI (mU I hg hm hv ?_ hn eE);exact PyProof.Rows.callWith_builtin1 (aE (ha pos pins s σ H _ I h) λus s1 z9=>by obtain⟨vs,H1,I1,r1,q1⟩:_:=z9;exact hc pins s1 σ H1 vs us Q I1 r1 q1) he cJ
theorem xS (hc:eY X (.type T) r)(hg:Gl X x)(hm:X.mg x=none)(hv:bootBuiltins x=some (.type T))(ha:PA X (e::es) t)(hn:x ≠ "__name__":=by decide)(eE:(x==("__debug__":Str))=false:=by decide)(he:starEach (e::es) X.env=(false,eval e X.env)::starEach es X.env:=by rfl)(cJ:(backTo pos (starEach es X.env)).any (·.1)=false:=by rfl):PE X (.Call (.Name x p) (e::es) [] pos) (lZ r t):=by
 intro pins s σ H Q I h;refine aeI (mU I hg hm hv ?_ hn eE);exact LH (aE (ha pos pins s σ H _ I h) λus s1 ⟨vs,H1,I1,r1,q1⟩=>hc pins s1 σ H1 vs us Q I1 r1 q1) he cJ
end
end L2
namespace HT
open PySem PyProof.Rows
section
def fX (n d:Nat):Option Int->Nat
 |none=>d
 |some v=>if v<0 then (v+(n:Int)).toNat else min v.toNat n
theorem Y1 (n d k:Nat):fX n d (some (k:Int))=min k n:=by
 rfl
end
end HT
namespace L2
open PySem PySem.Spec PyProof.Rows
abbrev TO:=St->Hp->(Option Int->Hp->Prop)->Prop
def PO (X:Cx)(e:Option Expr)(t:TO):Prop:=
 ∀(pins:List (adV×Obj)) (s:adX) (σ:St) (H:Hp) (Q:Option Int->Hp->Prop),Inv X pins σ H s->t σ H Q ->
  wpAny (model X.prog X.w) X.A (evalPart e X.env) (λu s'=>∃o H',Inv X pins σ H' s'/\IsPart u o/\Q o H') X.xe s
def KQ:TO:=λ_ H Q=>Q none H
def OW (t:TE):TO:=λσ H Q=>t σ H λx H1=>∃i,x=.int i/\Q (some i) H1
theorem intsAre_of:∀{us:List vn},Vals (ns.map V.int) us->IntsAre us ns:=by
 induction ns with
 |nil=>intro us r;cases r;exact .nil
 |cons n ns ih=>
  intro us r;cases r with
  |cons r1 r2=>
   obtain⟨t,e⟩:=r1;subst e;exact .cons n t (ih r2)
section
variable {lo:Option Expr}
theorem KR:PO X none KQ:=by
 intro pins s σ H Q I h;exact wpAny_pure ⟨none,H,I,.none,h⟩
theorem KS (h:PE X e te):PO X (some e) (OW te):=by
 intro pins s σ H Q I hw;refine aE (h pins s σ H _ I hw) λu s1 z9=>?_
 obtain⟨x,H1,I1,r1,q1⟩:=z9;obtain⟨i,rfl,q⟩:=q1;obtain⟨t,rfl⟩:=r1;exact⟨some i,H1,I1,.int i t,q⟩
def QX (X:Cx)(r:V->Option Int->Option Int->Hp->VK->Prop):Prop:=
 ∀(pins:List (adV×Obj)) (s:adX) (σ:St) (H:Hp) (x:V) (v vl vu:vn) (lo hi:Option Int) (sl:adV) (Q:VK),Inv X pins σ H s->RelV x v->s.heap.IsSliceOf sl vl vu .none->IsPart vl lo->IsPart vu hi->r x lo hi H Q ->
  ∃T id,typeLookup (.type T) "__getitem__"=pure (some (.builtin id))/\s.TypeIs v T/\wpAny (model X.prog X.w) X.A (getItem v (.ref sl)) (EP X pins σ Q) X.xe s
def QY (r:V->Option Int->Option Int->Hp->VK->Prop)(te:TE)(tl th:TO):TE:=λσ H Q=>te σ H λx H1=>tl σ H1 λl H2=>th σ H2 λu H3=>r x l u H3 Q
theorem JU (hr:QX X r)(he:PE X e te)(hl:PO X lo tl)(hu:PO X hi th):PE X (.Subscript e (.Slice lo hi none p2) pos) (QY r te tl th):=by
 intro pins s σ H Q I h;refine Subscript_ (aE (he pins s σ H _ I h) λv s1 z9=>?_);obtain⟨x,H1,I1,r1,q1⟩:=z9;refine wpAny_Slice (aE (hl pins s1 σ H1 _ I1 q1) λvl s2 ⟨l,H2,I2,pl,q2⟩=>aE (hu pins s2 σ H2 _ I2 q2) λvu s3 z9=>?_);obtain⟨u,H3,I3,pu,q3⟩:=z9;refine wpAny_pure ?_;have I4:Inv X pins σ H3 {s3 with heap:=s3.heap.push {cls:=.type "slice",data:=.fields #[vl,vu,.none]}}:=I3.kept (t':=s3.toks) λb ob q=>mf _ q
 obtain⟨T,id,hT,ht,hg⟩:_:=hr pins {s3 with heap:=s3.heap.push {cls:=.type "slice",data:=.fields #[vl,vu,.none]}} σ H3 x v vl vu l u s3.heap.objs.size Q I4 r1 (Heap.IsSliceOf.new ..) pl pu q3;exact tail_any ht hT hg (by with_unfolding_all rfl)
def sY (xs:List V)(lo hi:Option Int):List V:=(xs.drop (HT.fX xs.length 0 lo)).take (HT.fX xs.length xs.length hi-HT.fX xs.length 0 lo)
theorem VF (xs:List V)(lo hi:Option Int):(sY xs lo hi).length<=xs.length:=by
 unfold sY;rw[Lm,aec];lia
end
def dW (n:Nat)(i:Int):Option Nat:=if 0<=i then (if i<n then some i.toNat else none)else if -(n:Int)<=i then some (i+n).toNat else none
def aF {α:Type}(xs:List α)(i:Int):Option α:=(dW xs.length i).bind λj=>xs[j]?
theorem uz (h:dW n i=some j):seqIndex? i n=some j/\j<n /\ -(n:Int)<=i/\i<n:=by
 unfold dW at h;by_cases h0 : 0<=i
 ·rw[uu h0]at h;by_cases h1:i<n
  ·rw[uu h1]at h;have e:=FF h;exact⟨by rw[seqIndex_of h0 h1,e],'O','O',h1⟩
  ·simp_all
 ·rw[rf h0]at h;by_cases h1 : -(n)<=i
  ·rw[uu h1]at h;have e:=FF h;exact⟨by rw[seqIndex_neg 'O' h1,e],'O',h1,'O'⟩
  ·simp_all
theorem KU {xs:List α}{v : α}(h:aF xs i=some v):∃j,seqIndex? i xs.length=some j/\xs[j]?=some v/\j<xs.length /\ -(xs.length:Int)<=i/\i<xs.length:=by
 unfold aF at h;cases e:dW xs.length i with
 |none=>rw[e]at h;cases h
 |some j=>
  obtain⟨h1,h2,h3,h4⟩:=uz e
  simp_all
theorem dh {xs:List α}{j:Nat}{v : α}(h:xs[j]?=some v):aF xs (j:Int)=some v:=by
 have hj:=(gz.mp h).1;have e:dW xs.length (j)=some j:=by
  unfold dW
  simp_all
 unfold aF;rw[e];exact h
def uA (b:Expr):Prop:=∀o i,subscripted b false o i=operate [o,i] (getItem o i)
def we (X:Cx)(r:R2):Prop:=
 ∀(value slice:Expr) (pins:List (adV×Obj)) (s:adX) (σ:St) (H:Hp) (x y:V) (v u:vn) (Q:VK),Inv X pins σ H s->RelV x v->RelV y u->r x y H Q ->
  subscripted slice false v u=operate [v,u] (getItem v u)->wpAny (model X.prog X.w) X.A (subscriptTail value slice v u) (EP X pins σ Q) X.xe s
def QZ (X:Cx)(id:String)(r:V->List V->Hp->VK->Prop):Prop:=
 ∀(pins:List (adV×Obj)) (s:adX) (σ:St) (H:Hp) (x:V) (xs:List V) (v:vn) (us:List vn) (Q:VK),Inv X pins σ H s->RelV x v->Vals xs us->r x xs H Q ->
  wpAny (model X.prog X.w) X.A (call (.builtin id) (v::us)) (EP X pins σ Q) X.xe s
section
theorem ku (hr:we X r)(ha:PE X a ta)(hb:PE X b tb)(hs:uA b):PE X (.Subscript a b pos) (iZ r ta tb):=by
 intro pins s σ H Q I h;exact Subscript_ (FQ ha hb I h λv u s2 x y H2 I2 rx ry q=>hr a b pins s2 σ H2 x y v u Q I2 rx ry q (hs _ _))
def vH (K:Frag):R2:=λx y H Q=>∃p xs i v,x=.ref p/\y=.int i/\aM K H p xs/\aF xs i=some v/\Q v H
def FU (K:Frag):R2:=λx y H Q=>∃p xs i v,x=.ref p/\y=.int i/\cS K H p xs/\aF xs i=some v/\Q v H
theorem mJ:we X (vH X.K):=by
 intro value slice pins s σ H x y v u Q I rx ry h hs;obtain⟨p,xs,i,z,rfl,rfl,hq,he,q⟩:_:=h;cases rx;obtain⟨t,rfl⟩:=ry;obtain⟨its,r,pl,hz⟩:_:=I.list hq;obtain⟨j,h1,h2,h3,h4,h5⟩:_:=KU he;obtain⟨w,ew,qz⟩:_:=r.get h2;have hl:=r.length;have hn:=yL;have fin:EP X pins σ Q w s:=⟨z,H,I,qz,q⟩
 by_cases h0 : 0<=i
 ·have hj:i.toNat=j:=by
   rw[seqIndex_of h0 h5]at h1
   simp_all
  exact item_listR pl.isList h0 'O' 'J' fin hs
 ·have hj:(i+(its.toArray.size)).toNat=j:=by
   rw[seqIndex_neg 'O' h4]at h1
   simp_all
  exact subscriptTail_builtinR pl.isList.typeIs slot_list_getitem.lookup
   (wpAny_getItem_list_neg pl.isList 'O' 'J' 'O' 'J' ⟨rfl,fin⟩) hs
theorem aaU:we X (FU X.K):=by
 intro value slice pins s σ H x y v u Q I rx ry h hs;obtain⟨p,xs,i,z,rfl,rfl,hq,he,q⟩:_:=h;cases rx;obtain⟨t,rfl⟩:=ry;obtain⟨its,r,pl,hz⟩:_:=I.tuple hq;obtain⟨j,h1,h2,h3,h4,h5⟩:_:=KU he;obtain⟨w,ew,qz⟩:_:=r.get h2;have hl:=r.length;have hn:=yL;have fin:EP X pins σ Q w s:=⟨z,H,I,qz,q⟩
 exact subscriptTail_builtinR pl.typeIs slot_tuple_getitem.lookup
  (getItem_tuple (j:=j) pl 'O' 'O' 'J' 'J' ⟨rfl,fin⟩) hs
theorem V8 (its:List vn)(n j:Nat)(u:vn):Obj.mapSeq (·.setIfInBounds j u) {cls:=.type "list",data:=.seq its.toArray n}={cls:=.type "list",data:=.seq (its.set j u).toArray n}:=by
 simp[Obj.mapSeq]
theorem Inv.lst {pins:List (adV×Obj)}{σ:St}{H:Hp}{s:adX}{p:adV}{xs:List V}(I:Inv X pins σ H s)(h:H p=some (.lst xs)):
  ∃(its:List vn) (n:Nat),Vals xs its/\s.heap.get? p=some {cls:=.type "list",data:=.seq its.toArray n}/\xs.length<=sizeLine:=by
 obtain⟨z,its,n,r,e⟩:_:=I.aL p _ h;exact⟨its,n,r,e,z⟩
theorem Inv.aaV {σ:St}{its:List vn}(I:Inv X pins σ H s)(h:H p=some (.lst xs))(ho:s.heap.get? p=some {cls:=.type "list",data:=.seq its.toArray n})(hf:f {cls:=.type "list",data:=.seq its.toArray n}={cls:=.type "list",data:=.seq its'.toArray n'})(r:Vals ys its')(hz:ys.length<=sizeLine)(t:Nat):
  Inv X pins σ (upd H p (.lst ys)) {s with heap:=s.heap.update p f,toks:=t}:=by
 have e:(s.heap.update p f).get? p=some {cls:=.type "list",data:=.seq its'.toArray n'}:=by
  rw[NG f ho (by rw[hf]<;>rfl),hf]
 refine I.write (by rw[h];trivial) (.inl rfl) (λb u hb q=>(ON _ _ (ad7 hb)).trans q) ⟨_,e⟩ ?_;exact⟨hz,its',n',r,e⟩
def ER:V->V->V->Hp->(Hp->Prop)->Prop:=λo i v H Q=>∃p xs k j,o=.ref p/\i=.int k/\H p=some (.lst xs)/\dW xs.length k=some j/\Q (upd H p (.lst (xs.set j v)))
theorem set_list:P0 X ER:=by
 intro pins s σ H o i v ov iv u Q I ro ri rv h;obtain⟨p,xs,k,j,rfl,rfl,hp,hj,q⟩:_:=h;cases ro;obtain⟨t,rfl⟩:=ri;obtain⟨its,n,r,ho,hz⟩:_:=I.lst hp;obtain⟨h1,h2,h3,h4⟩:_:=uz hj;have hl:=r.length;have hn:=yL;have I':=
  I.aaV hp ho (V8 its n j u) (r.set rv j) 'J' s.toks
 by_cases h0 : 0<=k
 ·have hk:k.toNat=j:=by
   rw[seqIndex_of h0 h4]at h1
   simp_all
  exact PySem.W.ki_setAt ho h0 'O' 'J' (by grind)
 ·have hk:(k+(its.toArray.size)).toNat=j:=by
   rw[seqIndex_neg 'O' h3]at h1
   simp_all
  exact PySem.W.ki_setBack ho 'O' 'J' 'O' (by grind)
theorem Vg (lo hi:Option Int)(n:Nat):(sliceBounds lo hi none n).1=((HT.fX n 0 lo:Nat):Int)/\(sliceBounds lo hi none n).2.1=((HT.fX n n hi:Nat):Int)/\(sliceBounds lo hi none n).2.2=1:=by
 refine⟨?_,?_,rfl⟩
 ·cases lo with
  |none=>simp[sliceBounds,HT.fX]
  |some i=>
   simp only[sliceBounds,HT.fX,Option.getD_none]
   grind
 ·cases hi with
  |none=>simp[sliceBounds,HT.fX]
  |some i=>
   simp[sliceBounds,HT.fX]
   grind
theorem UM (its:List vn)(lo hi:Option Int):slicePick its.toArray lo hi none=((its.drop (HT.fX its.length 0 lo)).take (HT.fX its.length its.length hi-HT.fX its.length 0 lo)).toArray:=by
 obtain⟨h1,h2,h3⟩:_:=Vg lo hi its.toArray.size;unfold slicePick;rw[h1,h2,h3];simp only[sliceRange_one,pick_run]<;>rfl
def Qa (K:Frag):V->Option Int->Option Int->Hp->VK->Prop:=λx lo hi H Q=>∃a xs,x=.ref a/\aM K H a xs/\∀p,H p=none->Q (.ref p) (upd H p (.lst (sY xs lo hi)))
theorem KW:QX X (Qa X.K):=by
 intro pins s σ H x v vl vu lo hi sl Q I rx hs pl pu h;obtain⟨a,xs,rfl,hx,q⟩:_:=h;cases rx;obtain⟨its,r,ht,hz⟩:_:=I.list hx;have hlen:=r.length;refine⟨"list",_,slot_list_getitem.lookup,ht.isList.typeIs,?_⟩;refine wpAny_getItem_list_slice ht.isList hs pl pu .none 'Y' ?_ 'J';rw[UM,<- hlen];refine⟨.ref s.heap.objs.size,_,I.laid (t':=s.toks) (λb ob q=>mf _ q) (br _) ?_,rfl,q _ (I.aL.fresh (br _))⟩;exact⟨Cs (VF xs lo hi) hz,_,0,(r.drop (HT.fX xs.length 0 lo)).take (HT.fX xs.length xs.length hi-HT.fX xs.length 0 lo),BS _ rfl⟩
def iU:V->Bool
 | .aW=>true
 | .bl _=>true
 | .int _=>true
 | .str _=>true
 |_=>false
def jV:V->V->Bool
 | .aW,.aW=>true
 | .bl a,.bl b=>a==b
 | .bl a,.int b=>(if a then 1 else 0)==b
 | .int a,.bl b=>a==(if b then 1 else 0)
 | .int a,.int b=>a==b
 | .str a,.str b=>a==b
 |_,_=>false
theorem MK (ry:RelV y u)(rx:RelV x v)(fy:iU y=true)(fx:iU x=true):SeqAt.EqAt A s u v (jV y x):=by
 cases y with
 |aW=>
  cases ry
  cases x with
  |aW=>cases rx;exact SeqAt.EqAt.same _
  |bl b=>cases rx;exact SeqAt.EqAt.none_bool b
  |int b=>obtain⟨t,rfl⟩:=rx;exact SeqAt.EqAt.none_int b t
  |str b=>obtain⟨t,rfl⟩:=rx;exact SeqAt.EqAt.none_str b t
  |_=>exact absurd (show false=true from fx) AL
 |bl a=>
  cases ry
  cases x with
  |aW=>cases rx;exact SeqAt.EqAt.bool_none a
  |bl b=>cases rx;exact SeqAt.EqAt.bool_bool a b
  |int b=>obtain⟨t,rfl⟩:=rx;exact SeqAt.EqAt.bool_int a b t
  |str b=>obtain⟨t,rfl⟩:=rx;exact SeqAt.EqAt.bool_str a b t
  |_=>exact absurd (show false=true from fx) AL
 |int a=>
  obtain⟨t',rfl⟩:=ry;cases x with
  |aW=>cases rx;exact SeqAt.EqAt.int_none a t'
  |bl b=>cases rx;exact SeqAt.EqAt.int_bool a t' b
  |int b=>obtain⟨t,rfl⟩:=rx;exact SeqAt.EqAt.int_int a t' b t
  |str b=>obtain⟨t,rfl⟩:=rx;exact SeqAt.EqAt.int_str a t' b t
  |_=>exact absurd (show false=true from fx) AL
 |str a=>
  obtain⟨t',rfl⟩:=ry;cases x with
  |aW=>cases rx;exact SeqAt.EqAt.str_none a t'
  |bl b=>cases rx;exact SeqAt.EqAt.str_bool a t' b
  |int b=>obtain⟨t,rfl⟩:=rx;exact SeqAt.EqAt.str_int a t' b t
  |str b=>obtain⟨t,rfl⟩:=rx;exact SeqAt.EqAt.str_str a t' b t
  |_=>exact absurd (fx) AL
 |_=>exact absurd (fy) AL
def iH (x:V)(u:vn):Bool:=match u with
 | .none=>jV .aW x
 | .bool b=>jV (.bl b) x
 | .int i _=>jV (.int i) x
 | .str z _=>jV (.str z) x
 |_=>false
theorem ML (r:RelV y u)(f:iU y=true):iH x u=jV y x:=by
 cases y with
 |aW=>cases r;rfl
 |bl b=>cases r;rfl
 |int i=>obtain⟨t,rfl⟩:=r;rfl
 |str z=>obtain⟨t,rfl⟩:=r;rfl
 |_=>exact absurd (f) AL
theorem uB:∀{xs:List V} {us:List vn},Vals xs us->xs.all iU=true->us.any (iH x)=xs.any λy=>jV y x
 |_,_,.nil=>λ_=>rfl
 |y::xs,u::us,.cons r t=>λf=>by
  rw[afX,Lo]at f;rw[List.any_cons,List.any_cons,ML r f.1,uB t f.2]
theorem uo (rx:RelV x v)(fx:iU x=true):∀{xs:List V} {us:List vn},Vals xs us->xs.all iU=true->∀u∈us,SeqAt.EqAt A s u v (iH x u)
 |_,_,.nil,_=>λu hu=>by cases hu
 |y::xs,u::us,.cons r t,f=>λu' hu=>by
  rw[afX,Lo]at f;obtain rfl|hu:=ff.mp hu
  ·rw[ML r f.1];exact MK r rx f.1 fx
  ·exact uo rx fx t f.2 u' hu
def Af (x:V)(xs:List V):Bool:=xs.any λy=>jV y x
def GH (K:Frag)(neg:Bool):R2:=λx y H Q=>∃p xs,y=.ref p/\(aM K H p xs\/cS K H p xs)/\iU x=true/\xs.all iU=true/\Q (.bl (if neg then !Af x xs else Af x xs)) H
theorem WX:cN X (compareOp .In) (GH X.K false):=by
 intro pins s σ H x y v u Q I rx ry h;obtain⟨p,xs,rfl,hq,fx,fs,q⟩:_:=h;cases ry;obtain hq|hq:=hq
 ·obtain⟨its,r,pl,hz⟩:=I.list hq;refine SeqAt.in_listAt (iH x) pl.isList (λw hw=>uo rx fx r fs w 'J') ⟨.bl _,H,I,rfl,?_⟩;rw[show its.toArray.any (iH x)=its.any (iH x) by simp,uB r fs];exact q
 ·obtain⟨its,r,pl,hz⟩:=I.tuple hq;refine SeqAt.in_tupleAt (iH x) pl (λw hw=>uo rx fx r fs w 'J') ⟨.bl _,H,I,rfl,?_⟩;rw[show its.toArray.any (iH x)=its.any (iH x) by simp,uB r fs];exact q
theorem Vh:cN X (compareOp .NotIn) (GH X.K true):=by
 intro pins s σ H x y v u Q I rx ry h;obtain⟨p,xs,rfl,hq,fx,fs,q⟩:_:=h;cases ry;obtain hq|hq:=hq
 ·obtain⟨its,r,pl,hz⟩:=I.list hq;refine SeqAt.notIn_listAt (iH x) pl.isList (λw hw=>uo rx fx r fs w 'J') ⟨.bl _,H,I,rfl,?_⟩;rw[show its.toArray.any (iH x)=its.any (iH x) by simp,uB r fs];exact q
 ·obtain⟨its,r,pl,hz⟩:=I.tuple hq;refine SeqAt.notIn_tupleAt (iH x) pl (λw hw=>uo rx fx r fs w 'J') ⟨.bl _,H,I,rfl,?_⟩;rw[show its.toArray.any (iH x)=its.any (iH x) by simp,uB r fs];exact q
theorem Vi:eY X (.builtin "len") (λxs H Q=>∃p ys,xs=[.ref p]/\(aM X.K H p ys\/cS X.K H p ys)/\Q (.int ys.length) H):=by
 intro pins s σ H xs us Q I r h;obtain⟨p,ys,rfl,hq,q⟩:_:=h;obtain⟨u,rfl,rx⟩:=vals1 r;cases rx;have hn:=yL;obtain hq|hq:=hq
 ·obtain⟨its,r',pl,hz⟩:=I.list hq;have hlen:=r'.length;exact Calls.call_len_list pl.isList (by grind) ⟨.int ys.length,H,I.tok _,⟨s.toks+1,'J'⟩,q⟩
 ·obtain⟨its,r',pl,hz⟩:=I.tuple hq;have hlen:=r'.length;exact len_tuple pl (by grind) ⟨.int ys.length,H,I.tok _,⟨s.toks+1,'J'⟩,q⟩
theorem Vj:eY X (.type "list") (λxs H Q=>∃p ys,xs=[.ref p]/\(aM X.K H p ys\/cS X.K H p ys)/\∀l,H l=none->Q (.ref l) (upd H l (.lst ys))):=by
 intro pins s σ H xs us Q I r h;obtain⟨p,ys,rfl,hq,q⟩:_:=h;obtain⟨u,rfl,rx⟩:=vals1 r;cases rx;have fin:∀(its),Vals ys its->ys.length<=sizeLine->∀(h') (c'),(∀b o',s.heap.get? b=some o'->h'.get? b=some o') ->
   h'.get? s.heap.objs.size=some {cls:=.type "list",dict:=none,data:=.seq its.toArray c',slots:=#[]}->EP X pins σ Q (.ref s.heap.objs.size) {s with heap:=h'}:=λits r' hz h' c' kp e=>
  ⟨.ref s.heap.objs.size,_,I.laid (t':=s.toks) kp (br _) (show iw X.prog X.w _ h' _ (.lst ys)from⟨hz,its,c',r',e⟩),rfl,q _ (I.aL.fresh (br _))⟩
 obtain hq|hq:=hq
 ·obtain⟨its,r',pl,hz⟩:=I.list hq;have hlen:=r'.length;obtain⟨o,ho,hc,n,hd⟩:=pl.isList;exact call_list_seq p (.inl rfl) ho hc hd (λh' c' kp e=>fin its r' hz h' c' kp e) 'J'
 ·obtain⟨its,r',pl,hz⟩:=I.tuple hq;have hlen:=r'.length;obtain⟨o,ho,hc,n,hd⟩:=pl;exact call_list_seq p (.inr rfl) ho hc hd (λh' c' kp e=>fin its r' hz h' c' kp e) 'J'
def Q0 (K:Frag)(T:String)(x:V)(H:Hp):Prop:=match x with
 | .str _=>T="str"
 | .int _=>T="int"
 | .ref p=>(T="list"/\∃xs,aM K H p xs)\/(T="tuple"/\∃o,K.lookup p=some o/\o.cls=.type "tuple"/\o.dict=none) \/
   (T="dict"/\((∃eu,H p=some (.dK eu))\/∃eu,H p=some (.dT eu)))\/(T="set"/\∃S n,H p=some (.set S n))
 |_=>False
theorem aaW {σ:St}(I:Inv X pins σ H s)(r:RelV x v)(ty:Q0 X.K T x H):
  s.TypeIs v T/\∀a,v=.ref a->∃ob,s.heap.get? a=some ob/\ob.dict=none:=by
 cases x with
 |str z=>
  obtain⟨t,rfl⟩:=r;cases (ty);exact⟨typeIs_str s z t,λ_ e=>nomatch e⟩
 |int i=>
  obtain⟨t,rfl⟩:=r;cases (ty);exact⟨typeIs_int s i t,λ_ e=>nomatch e⟩
 |ref p=>
  cases r
  obtain⟨rfl,xs,hq⟩|⟨rfl,o,hk,hc,hd⟩|⟨rfl,hk⟩|⟨rfl,S,n,hk⟩:=ty
  ·obtain⟨its,_,pl,_⟩:=I.list hq;refine⟨pl.isList.typeIs,λa e=>?_⟩;cases e;obtain⟨o,n,e,c,hd,_⟩:=pl;exact⟨o,e,hd⟩
  ·refine⟨⟨o,I.dw p o hk,hc⟩,λa e=>?_⟩;cases e;exact⟨o,I.dw _ o hk,hd⟩
  ·have z:∃o,s.heap.get? p=some o/\o.ExactDict:=by
    obtain⟨eu,hk⟩|⟨eu,hk⟩:_:=hk
    ·obtain⟨_,_,_,_,o,_,_,e,ex,_⟩:=I.aL p _ hk;exact⟨o,e,ex⟩
    ·obtain⟨_,_,_,_,o,_,_,e,ex,_⟩:=I.aL p _ hk;exact⟨o,e,ex⟩
   obtain⟨o,e,ex⟩:=z;refine⟨⟨o,e,ex.1⟩,λa e2=>?_⟩;cases e2;exact⟨o,e,ex.2.1⟩
  ·obtain⟨o,_,_,_,e,ex,_⟩:_:=I.aL p _ hk;refine⟨⟨o,e,ex.1⟩,λa e2=>?_⟩;cases e2;exact⟨o,e,ex.2.1⟩
 |_=>exact False.elim ty
def nD (K:Frag)(T:String)(r:V->List V->Hp->VK->Prop)(to:TE)(t:TA):TE:=λσ H Q=>to σ H λx H1=>Q0 K T x H1/\t σ H1 λxs H2=>r x xs H2 Q
variable {apos sZ:Pos}{id:String}
theorem lF (pa:PlainAttrs T)(slot:Slot T name id)(GI:typeOf (.builtin id)=pure (.type "method_descriptor"))(hm:QZ X id r)(ho:PE X o to)(ha:PA X (e::es) t)(jl:attributeBase o name X.env (eval o X.env)=eval o X.env:=by rfl)(jt:((backTo sZ (starEach (e::es) X.env)).all (λx=>!x.1)&&(backToKw sZ (keywordEach [] X.env)).all (λx=>x.1.isSome)
   && decide ((e::es).length+([]:List Keyword).length+(if([]:List Keyword).isEmpty then 0 else 1)<30))=true:=by rfl)(hline:(apos.endLine==sZ.line)=true:=by rfl)(hs:starEach (e::es) X.env=(false,eval e X.env)::starEach es X.env:=by rfl)(MM:(backTo sZ (starEach es X.env)).any (·.1)=false:=by rfl):
  PE X (.Call (.Attribute o name apos) (e::es) [] sZ) (nD X.K T r to t):=by
 intro pins s σ H Q I h;refine wpAny_Call_method_late jl jt hline rfl (aE (ho pins s σ H _ I h) λv s1 z9=>?_);obtain⟨x,H1,I1,r1,ty,q1⟩:=z9;obtain⟨h1,h2⟩:=aaW I1 r1 ty;refine⟨T,id,pa,slot,GI,h1,h2,?_⟩;have hA:=ha sZ pins s1 σ H1 _ I1 q1;rw[hs]at hA ⊢;refine Calls.callWith_builtin (by assumption) (Calls.evalArgs_plain ?_);exact aE hA λus s2 z9=>by obtain⟨vs,H2,I2,r2,q2⟩:_:=z9;exact hm pins s2 σ H2 x vs v us Q I2 r1 r2 q2
end
def Ag (X:Cx)(id:String)(r:V->List V->Hp->VK->Prop):Prop:=
 ∀(pins:List (adV×Obj)) (s:adX) (σ:St) (H:Hp) (x:V) (xs:List V) (v:vn) (us:List vn) (Q:VK),Inv X pins σ H s->RelV x v->Vals xs us->r x xs H Q ->
  wpAny (model X.prog X.w) X.A (call (.builtin id) (v::us)) (EP X pins σ Q) X.xe s
theorem Vals.one {x:V}{us:List vn}(h:Vals [x] us):∃u,us=[u]/\RelV x u:=by
 cases h with|cons r h=>cases h;exact⟨_,rfl,r⟩
theorem Vals.two {x y:V}{us:List vn}(h:Vals [x,y] us):∃u v,us=[u,v]/\RelV x u/\RelV y v:=by
 cases h with|cons r h=>cases h with|cons q h=>cases h;exact⟨_,_,rfl,r,q⟩
theorem Vals.eraseIdx:∀{xs:List V} {us:List vn} (i:Nat),Vals xs us->Vals (xs.eraseIdx i) (us.eraseIdx i)
 |_,_,_,.nil=>.nil
 |_,_,0,.cons _ t=>t
 |_,_,i+1,.cons r t=>.cons r (Vals.eraseIdx i t)
theorem Vals.rep (h:Vals xs us):∀k,Vals (List.replicate k xs).flatten (List.replicate k us).flatten
 |0=>.nil
 |k+1=>Vals.append h (Vals.rep h k)
theorem Jy {α:Type}:∀(l:List α) i,(l.eraseIdx i).length<=l.length
 |[],_=>br _
 |_::_,0=>ad8 _
 |_::r,i+1=>ae9 (Jy r i)
theorem foldl_rep (its:List vn):∀k acc,
  List.foldl (λx1 x2=>x1++x2) acc.toArray (List.replicate k its.toArray)=(acc++(List.replicate k its).flatten).toArray
 |0=>λacc=>'Y'
 |k+1=>λacc=>by
  have e:acc.toArray++its.toArray=(acc++its).toArray:='Y'
  have e2:(acc++its)++(List.replicate k its).flatten=acc++(List.replicate (k+1) its).flatten:=by
   grind
  rw[<- e2,<- foldl_rep its k (acc++its),<- e,List.replicate_succ,aeJ]
section
variable {σ:St}
theorem Inv.FV {its:List vn}(I:Inv X pins σ H s)(hH:H l=some (.lst xs))(e:s.heap.get? l=some {cls:=.type "list",data:=.seq its.toArray n})(hf:f its.toArray=its'.toArray)(hv:Vals ys its')(hz:ys.length<=sizeLine):
  Inv X pins σ (upd H l (.lst ys)) {s with heap:=s.heap.update l (Obj.mapSeq f),toks:=t'}:=by
 have q:=PySem.IsL.update e f;rw[hf]at q;refine I.write (by rw[hH];exact trivial) (.inl rfl) (λb' u hb hu=>(ON s.heap (Obj.mapSeq f) (ad7 hb)).trans hu) ⟨_,q⟩ ?_;exact⟨hz,its',_,hv,q⟩
theorem Inv.zN (I:Inv X pins σ H s)(hv:Vals ys its)(hz:ys.length<=sizeLine):
  Inv X pins σ (upd H s.heap.objs.size (.lst ys)) {s with heap:=s.heap.push {cls:=.type "list",data:=.seq its.toArray},toks:=t'}:=
 I.laid (λ_ _ q=>mf _ q) (br _) ⟨hz,its,0,hv,BS _ rfl⟩
theorem Inv.fresh (I:Inv X pins σ H s):H s.heap.objs.size=none:=I.aL.fresh (br _)
theorem Inv.vI (I:Inv X pins σ H s)(hH:H l=some (.lst xs)):xs.length<=sizeLine/\∃(its:List vn) (n:Nat),Vals xs its/\xs.length=its.length/\s.heap.get? l=some {cls:=.type "list",data:=.seq its.toArray n}:=by
 obtain⟨z,its,n,r,e⟩:_:=I.aL l _ hH;exact⟨z,its,n,r,r.length,e⟩
theorem JV (h:n<=sizeLine):Builtin.List.listTooLong n=false:=by
 unfold Builtin.List.listTooLong
 simp_all
end
section
def yu:V->List V->Hp->VK->Prop:=λx vs H Q=>∃l xs y,x=.ref l/\vs=[y]/\H l=some (.lst xs)/\xs.length<sizeLine/\Q .aW (upd H l (.lst (xs++[y])))
theorem oY:Ag X "list.append" yu:=by
 intro pins s σ H x vs v us Q I rx rv h;obtain⟨l,xs,y,rfl,rfl,hH,hz,q⟩:_:=h;cases rx;obtain⟨u,rfl,ru⟩:=rv.one;obtain⟨z,its,n,r,hl,e⟩:_:=I.vI hH;refine afo F.slot_list_append ⟨_,e,rfl⟩ F.entry_list_append (F.args_list_append_2 _ _) (PySem.list_append l its.toArray n u 'J') ⟨e,?_⟩;refine⟨.aW,_,I.FV (its':=its++[u]) hH e 'Y' (r.append (.cons ru .nil)) ?_,rfl,q⟩
 grind
def C5:V->List V->Hp->VK->Prop:=λx vs H Q=>∃l b xs zs,x=.ref l/\vs=[.ref b]/\H l=some (.lst xs)/\H b=some (.lst zs)/\xs.length+zs.length<=sizeLine/\Q .aW (upd H l (.lst (xs++zs)))
theorem Jz:Ag X "list.extend" C5:=by
 intro pins s σ H x vs v us Q I rx rv h;obtain⟨l,b,xs,zs,rfl,rfl,hH,hB,hz,q⟩:_:=h;cases rx;obtain⟨u,rfl,ru⟩:=rv.one;cases ru;obtain⟨z,its,n,r,hl,e⟩:_:=I.vI hH;obtain⟨z2,iz,n2,r2,oK,e2⟩:_:=I.vI hB;have cT:its.toArray.size+iz.toArray.size<=sizeLine:='J'
 have EV:¬(!its.toArray.isEmpty&&Builtin.List.listTooLong (its.toArray.size+iz.toArray.size))=true:=by
  rw[JV cT,ae2]
  simp_all
 refine afo F.slot_list_extend ⟨_,e,rfl⟩ F.entry_list_extend (F.args_list_extend_2 _ _)
  (AutoSeq1.list_extend_list_list_0 l its.toArray n b iz.toArray n2 EV 'O' 'O') ⟨e,e2,?_⟩
 refine⟨.aW,_,I.FV (its':=its++iz) hH e 'Y' (r.append r2) ?_,rfl,q⟩
 simp_all
def DN:V->List V->Hp->VK->Prop:=λx vs H Q=>∃l xs i k y,x=.ref l/\vs=[.int i]/\H l=some (.lst xs) /\ -(2^63)<=i/\i<2^63/\seqIndex? i xs.length=some k/\xs[k]?=some y/\Q y (upd H l (.lst (xs.eraseIdx k)))
theorem JW:Ag X "list.pop" DN:=by
 intro pins s σ H x vs v us Q I rx rv h;obtain⟨l,xs,i,k,y,rfl,rfl,hH,h1,h2,hk,hy,q⟩:_:=h;cases rx;obtain⟨u,rfl,ru⟩:=rv.one;obtain⟨t,rfl⟩:=ru;obtain⟨z,its,n,r,hl,e⟩:_:=I.vI hH;obtain⟨w,hw,qz⟩:_:=r.get hy;refine afo F.slot_list_pop ⟨_,e,rfl⟩ F.entry_list_pop (F.args_list_pop_2 _ _)
  (MeetsSeq.list_pop_at l its.toArray n i t k w (fitsIndex_both h1 h2) (by rw[Cn,<- hl];exact hk) (by rw[<- DD];exact hw) (by rw[Cn];lia)) ⟨e,?_⟩
 refine⟨y,_,I.FV (its':=its.eraseIdx k) hH e ?_ (r.eraseIdx k) ?_,qz,q⟩
 ·show its.toArray.eraseIdxIfInBounds k=(its.eraseIdx k).toArray;rw[List.eraseIdxIfInBounds_toArray]
 ·have:=Jy xs k;lia
def Qb:R2:=λx y H Q=>∃l k xs,x=.ref l/\y=.int k/\H l=some (.lst xs) /\ -(2^63)<=k/\k<2^63/\xs.length*k.toNat<=sizeLine /\
 ∀p,H p=none->Q (.ref p) (upd H p (.lst (List.replicate k.toNat xs).flatten))
theorem len_rep {α:Type}(xs:List α)(k:Nat):(List.replicate k xs).flatten.length=k*xs.length:=by
 simp_all
theorem aaX:cN X (binaryOp .Mult) Qb:=by
 intro pins s σ H x y v u Q I rx ry h;obtain⟨l,k,xs,rfl,rfl,hH,h1,h2,hz,q⟩:_:=h;cases rx;obtain⟨t,rfl⟩:=ry;obtain⟨z,its,n,r,hl,e⟩:_:=I.vI hH;have hlen:its.toArray.size*k.toNat<=sizeLine:='J'
 have acK:¬its.toArray.size*k.toNat>(2^63-1)/8:=by
  have:(sizeLine)<=(2^63-1)/8:='Q'
  lia
 have FW:¬(!Builtin.List.listFitsIndex k)=true:=by
  rw[fitsIndex_both h1 h2]
  simp_all
 have EV:¬Builtin.List.listTooLong (its.toArray.size*k.toNat)=true:=by
  rw[JV hlen]
  simp_all
 have acL:List.foldl (λx1 x2=>x1++x2) #[] (List.replicate (if its.toArray.isEmpty=true then 0 else k.toNat) its.toArray)=(List.replicate k.toNat its).flatten.toArray:=by
  have f0:∀m,List.foldl (λx1 x2=>x1++x2) #[] (List.replicate m its.toArray)=(List.replicate m its).flatten.toArray:=λm=>by
   have:=foldl_rep its m []
   assumption
  rw[f0];cases its with
  |nil=>simp
  |cons a r'=>rw[rf 'Y']
 refine wpAny_binaryOp_repeat_ref 'Q' ⟨_,e,rfl⟩ (λs'=>typeIs_int s' k t) noFill_list_mul F.fills_int_mul F.slot_int_rmul repeat_list F.slot_int_index.lookup
  (afo F.slot_int_rmul (typeIs_int s k t) F.entry_int_rmul (F.args_int_rmul_2 _ _) (int___rmul___int_list k t l its.toArray n)
   ⟨e,rfl,⟨_,e,rfl⟩,afo F.slot_list_mul ⟨_,e,rfl⟩ F.entry_list_mul (F.args_list_mul_2 _ _) (AutoListH.list___mul___list_int_3 l its.toArray n k t FW acK EV) ⟨e,?_⟩⟩)
 rw[acL];exact⟨.ref _,_,I.zN (t':=s.toks) (r.rep k.toNat) (by rw[len_rep,Nat.mul_comm];exact hz),rfl,q _ I.fresh⟩
end
end L2
namespace Q1
open PySem PySem.W PySem.Calls PyProof.Rows
theorem Uj:∀ns vs,WellAll P h vs (ns.map WData.int)->IntsAre vs ns:=by
 intro ns
 induction ns with
 |nil=>
  intro vs w;cases w;exact .nil
 |cons n ns ih=>
  intro vs w;cases w with
  |cons a b=>
   cases a
   exact .cons _ _ (ih _ b)
theorem WY {l:OpenLaw}(hn:l.most=some n)(zO:l.row.toRowW.claim.pre args=true)(GJ:WellAll P h vals args):
  ∃a vs ns,vals=[Value.ref a]/\args=[WData.list (ns.map WData.int)]/\h.get? a=some {cls:=.type "list",data:=.seq vs.toArray}/\IntsAre vs ns/\ns.length<=n:=by
 have hsh:=(pre_splitW zO).1;have hc:l.pre.holds [] {args:=args}=true:=(pre_splitW zO).2;obtain⟨d,r,rfl,h1,h2⟩:_:=hasAllW_cons hsh;obtain rfl:=hasAllW_nil h2;obtain⟨xs,rfl,h3⟩:=hasW_list h1;obtain⟨ns,rfl⟩:=items_int h3;have hlen:ns.length<=n:=by
  have h4:(WTm.not (.lt (.lit (.int (n))) (.len (.arg 0)))).holds [] {args:=[.list (ns.map .int)]}=true:=by
   have h4:=(holds_andW hc).1
   simp_all
  have h5:=condW_of h4 (w_not (w_lt w_lit (w_len_list (w_arg rfl))))
  simp_all
 cases GJ with
 |cons w1 w2=>
  cases w2
  cases w1 with
  |list ho fS=>exact⟨_,_,ns,rfl,rfl,ho,Uj ns _ fS,hlen⟩
theorem WZ (l:OpenLaw)(args:List WData):l.row.toRowW.claim.post args (.bool true) args=true:=
 postW_of
  (show WShape.has [] (.bool true) .bool=true by first|rfl|decide|simp[WShape.has])
  (w_eq_bool (w_res rfl) w_lit) rfl
theorem VG {l:OpenLaw}(hn:l.most=some n)(wg:d.params.defaults=[])(call:∀w dZ bz mg mb fa o pm cd doc a vs ns,
   Ground q loose [] XP w dZ mg mb bz.heap->YP w bz.heap ->
   bz.heap.get? fa=some o->o.data=.func (docDef d.name d.params d.body d.scope pm cd doc)->bz.heap.CodeRec cd d.name->mg d.name=some (.ref fa) ->
   bz.heap.get? a=some {cls:=.type "list",data:=.seq vs.toArray}->IntsAre vs ns->ns.length<=n->bz.gens=#[] ->
   codeAny (model l.prog w) callerA (.call (.ref fa) ⟨[.ref a],[]⟩) (λr s'=>r=.ok (.ret (.bool true))/\OldK bz.heap s'.heap/\s'.os=bz.os/\AllBare s'.gens) bz):
  WalkO q loose XP YP l.row.toRowW d [] (λf vs=>PySem.call f vs):=by
 intro w dZ bz mg mb G Y fa o pm cd doc dV kV ho hd jU hD wk hg args vals as zO adQ hrd GJ hlo;obtain rfl:dV=.none:=Dflts.none hD wg;obtain rfl:kV=.none:=Dflts.noKw hD;obtain⟨a,vs,ns,rfl,rfl,FX,hints,hlen⟩:_:=WY hn zO GJ;refine enter_call (ae6 (call w dZ bz mg mb fa o pm cd doc a vs ns G Y ho (fd_plain hd) jU wk FX hints hlen hg) λr s' hq=>?_);obtain⟨rfl,h2,h3,h4⟩:=hq;exact⟨.inl ⟨.bool true,.bool true,[],rfl,λ_=>rfl,.bool true,WZ l _,λ_=>⟨List.Pairwise.nil,λ_ hm=>(nomatch hm)⟩⟩,h2,h3,h4⟩
end Q1
namespace L2
open PySem PySem.Spec PyProof.Rows
theorem B2:∀{vs:List vn} {ns:LI},IntsAre vs ns->Vals (ns.map V.int) vs
 |_,_,.nil=>.nil
 |_,_,.cons n t h=>.cons ⟨t,rfl⟩ (B2 h)
def FY (H:Hp):Prop:=∀b,H b=none\/∃o xs,H b=some (.dM o (.lst xs))
theorem XJ {K:Frag}(KX:K.In bz.heap)(kN:bz.heap.Ns mainGlobals mg)(hb:bz.heap.Ns builtinsNs mb)(wm:∀x:Str,x ≠ "__name__"->mb x=bootBuiltins x)(acM:bz.heap.NoLimit)(hg:bz.gens=#[])(ha:bz.heap.get? a=some {cls:=.type "list",data:=.seq vs.toArray})(hi:IntsAre vs ns)(hl:ns.length<=sizeLine)(hr:dv k callerA)(F:∀base,K.In base->base.Ns mainGlobals mg->bS P w K mg base CX k fa fd [x] sp)(ab2:∀(s:adX) (u:vn),BindsTo s fd ⟨[u],[]⟩ [(x,u)])(oJ:∀H,FY H->aM K H a (ns.map V.int)->sp [.ref a] H (λv _=>v=.bl true) λ_ _ _=>False)(GK:∀H e s',CX [] H bz (λ_ _ _=>False) e s'->False):
  codeAny (model P w) callerA (.call (.ref fa) ⟨[.ref a],[]⟩) (λr s'=>r=.ok (.ret (.bool true))/\OldK bz.heap s'.heap/\s'.os=bz.os/\AllBare s'.gens) bz:=by
 have rv:=B2 hi;have acN:=hi.length;have core:∀H,FY H->aM K H a (ns.map V.int)->dU P w H bz.heap->(∀b,H b≠none->b=a)->(H a≠none->K.lookup a=none) ->
   codeAny (model P w) callerA (.call (.ref fa) ⟨[.ref a],[]⟩) (λr s'=>r=.ok (.ret (.bool true))/\OldK bz.heap s'.heap/\s'.os=bz.os/\AllBare s'.gens) bz:=by
  intro H hO hS aL hA hK;have KY:∀{b:adV} {o:Obj},bz.heap.get? b=some o->H b=none->(ot bz.heap H).get? b=some o:=λe n=>XB e n
  have wc:∀{b:adV} {o:Obj} {es:Array DictEntry} {ep:Nat},bz.heap.get? b=some o->o.data=.dict es ep->H b=none:=λ{b o es ep} e d=>by
   cases q:H b with
   |none=>rfl
   |some u=>
    have e':b=a:=hA b (by rw[q];simp);subst e';rw[ha]at e;cases e;have d':=d;cases d'
  have Ah:∀{b:adV} {m:Str->Option vn},bz.heap.Ns b m->(ot bz.heap H).Ns b m:=λ{b m} z9=>by obtain⟨o,es,ep,e,d,r⟩:_:=z9;exact⟨o,es,ep,KY e (wc e d),d,r⟩
  have Q2:=λb o e=>KY (KX b o e) (by
   cases q:H b with
   |none=>rfl
   |some u=>
    have e':=hA b (by rw[q];simp);subst e';rw[hK (by rw[q];simp)]at e;cases e)
  have hM:Mod K mg (ot bz.heap H):=⟨Q2,Ah kN,⟨mb,Ah hb,wm⟩,by obtain⟨mc,h1,h2⟩:=acM;exact⟨mc,Ah h1,h2⟩⟩
  have e0:pY P w K mg (ot bz.heap H) callerA [] bz H:=⟨rfl,hM,λb o e=>YT e,af5 (WM _ _),trivial,λb hb=>absurd (show b∈([])from hb) 'Y',aL,.of_eq hg⟩
  refine ae6 ((F _ Q2 (Ah kN)).run callerA [] bz H ⟨[.ref a],[]⟩ [.ref a] [.ref a] _ _ hr e0 (ab2 bz (.ref a)) (.cons rfl .nil) (oJ H hO hS)) λr s' h=>?_
  cases r with
  |error e=>exact(GK H e s' h).elim
  |ok fl=>
   cases fl with
   |next=>exact False.elim h
   |brk=>exact False.elim h
   |cont=>exact False.elim h
   |ret u=>
    obtain⟨v,H',os,bare,un,acO,r',q⟩:_:=h;have q':=q;subst q';obtain rfl:u=Value.bool true:=r';refine⟨rfl,OldK.of_keep λb o e=>?_,os,bare⟩;cases q:H b with
    |none=>exact un.keep b o e q (by intro z;exact absurd (show b∈([])from z) 'Y') 'Y'
    |some u=>
     obtain z|⟨ob,xs,z⟩:=hO b
     ·rw[q]at z;cases z
     ·have z2:=un.ky b ob _ z;obtain⟨e1,_⟩:=aL b _ z;obtain⟨e2,_⟩:=acO b _ z2;rw[e]at e1;cases e1;exact e2
 cases hk:K.lookup a with
 |some o=>
  have e:=KX a o hk;rw[ha]at e;cases e;refine core (λ_=>none) (λ_=>.inl rfl) (.inr ⟨_,vs.toArray,_,hk,rfl,rfl,rfl,by rw[Cn,acN];exact hl,by simpa using rv⟩) (λb u z=>by have z':=z;cases z') (λb z=>absurd rfl z) λz=>absurd rfl z
 |none=>
  refine core (λb=>if b=a then some (.dM {cls:=.type "list",data:=.seq vs.toArray} (.lst (ns.map V.int)))else none) (λb=>?_) (.inl (.inr ⟨{cls:=.type "list",data:=.seq vs.toArray},uu rfl⟩)) (λb u z=>?_) (λb z=>?_) λ_=>hk
  ·by_cases hb:b=a
   ·exact .inr ⟨_,_,uu hb⟩
   ·exact .inl (rf hb)
  ·by_cases hb:b=a
   ·have z':=(uu hb).symm.trans z;cases z';subst hb;exact⟨ha,by rw[aa];exact hl,vs,_,rv,ha⟩
   ·have z':=(rf hb).symm.trans z;cases z'
  ·by_cases hb:b=a
   ·exact hb
   ·exact absurd (rf hb) z
theorem Y2 {l:PySem.W.OpenLaw}{K:Params->Frag}{CX:agd->qC}{sp:agd->Sp}(hn:l.most=some n)(Ae:n<=sizeLine)(wg:d.params.defaults=[])(hr:dv k callerA)(hY:∀w h,YP w h->(K w.params).In h)(F:∀w mg fa h,(K w.params).In h->h.Ns mainGlobals mg->mg d.name=some (.ref fa) ->
   ∃fd,(∀s u,BindsTo s fd ⟨[u],[]⟩ [(x,u)]) /\
    ∀base,(K w.params).In base->base.Ns mainGlobals mg->bS l.prog w (K w.params) mg base (CX w) k fa fd [x] (sp w))(oJ:∀w H a (ns:LI),ns.length<=n->FY H->aM (K w.params) H a (ns.map V.int)->sp w [.ref a] H (λv _=>v=.bl true) λ_ _ _=>False)(GK:∀w H s e s',CX w [] H s (λ_ _ _=>False) e s'->False):
  PySem.W.WalkO q loose XP YP l.row.toRowW d [] (λf vs=>PySem.call f vs):=by
 refine Q1.VG hn wg λw dZ bz mg mb fa o pm cd doc a vs ns G Y ho hd jU wk FX hints hlen hg=>?_
 have KX:=hY w _ Y;obtain⟨fd,hb,hF⟩:_:=F w mg fa _ KX G.T.g wk;exact XJ KX G.T.g G.T.b G.T.builtins G.T.nolimit hg FX hints (Cs hlen Ae) hr hF hb (λH hO hS=>oJ w H a ns hlen hO hS) λH e s'=>GK w H bz e s'
def eV (s:age):Arguments:=match s with
 | .FunctionDef _ a _ _ _ _ _ _ _ _=>a
 |_=>{posonlyargs:=[],args:=[],vararg:=none,kwonlyargs:=[],kw_defaults:=[],kwarg:=none,defaults:=[]}
def dB (s:age):List age:=match s with
 | .FunctionDef _ _ b _ _ _ _ _ _ _=>b
 |_=>[]
def az (s:age):Scope:=match s with
 | .FunctionDef _ _ _ _ _ _ sc _ _ _=>sc
 |_=>{kind:=.function,names:=[],isGenerator:=false,isCoroutine:=false}
abbrev bx:qC:=λ_ _ _ _ _ _=>False
abbrev E0:XK:=λ_ _ _=>False
theorem m8:Passes bx X E0:=λ_ _ _ _ _ _ _ h=>h.elim
structure qD (K:Frag) (x qual:Str) (st:age) (f:adV) (fd:FuncData):Prop where
 ex:∃(oc:vn) (od:Option adV) (kV doc pm:vn) (an:Option adV) (aN ct:vn) (i5:Array (Option vn)),
  fd=fnOf x qual (eV st) (dB st) (az st) .none kV doc pm an aN ct/\K.lookup f=some ⟨oc,od,.func fd,i5⟩/\codeIn K aN qual=true
 kp:keepIn K (.ref f)=true
section
variable {K:Frag}
theorem qD.binds {st:age}(F:qD K x qual st f fd)(h:∀kV doc pm an aN ct us,us.length=ps.length->bindArgs (fnOf x qual (eV st) (dB st) (az st) .none kV doc pm an aN ct) ⟨us,[]⟩=pure (ps.zip us)):Binds K fd ps []:=by
 obtain⟨oc,od,kV,doc,pm,an,aN,ct,i5,rfl,lk,jU⟩:_:=F.ex;exact .all (h kV doc pm an aN ct)
theorem aaY {st:age}{kV:vn}(l:K.lookup f=some ⟨oc,od,.func (fnOf x qual (eV st) (dB st) (az st) .none kV doc pm an aN ct),i5⟩)(c:codeIn K aN qual=true)(k:keepIn K (.ref f)=true):qD K x qual st f (fnOf x qual (eV st) (dB st) (az st) .none kV doc pm an aN ct):=⟨⟨oc,od,kV,doc,pm,an,aN,ct,i5,rfl,l,c⟩,k⟩
end
section
variable {X:Cx}
theorem pv (i:Nat){pos:Pos}(hN:X.N[i]?=some x:=by rfl)(hv:iF X.env.scope x:=by first|exact Or.inl rfl|exact Or.inr (Or.inl rfl)|exact Or.inr (Or.inr rfl))(hd:(x==("__debug__":Str))=false:=by decide)(jU:(x==("__classdict__":Str))=false:=by decide):PE X (.Name x pos) (dC i):=kj hN hv hd jU
end
theorem lO {B:Prop}(h:B):if false=true then A else B:=by
 simp_all
theorem lQ {B:Prop}(h:A):if true=true then A else B:=by
 simp_all
def aj (H H':Hp):Prop:=∀b o,H b=some o->H' b=some o
theorem aj.refl (H:Hp):aj H H:=λ_ _ h=>h
theorem aj.trans (a:aj H H1)(b:aj H1 H2):aj H H2:=λc o h=>b c o (a c o h)
theorem aj.free (e:aj H H')(h:H' l=Option.none):H l=Option.none:=by
 cases q:H l with
 |none=>rfl
 |some o=>
  rw[e l o q]at h;cases h
theorem aj.seq {K:Frag}(e:aj H H')(h:aM K H a xs):aM K H' a xs:=by
 obtain (h|⟨o,h⟩)|h:=h
 ·exact .inl (.inl (e _ _ h))
 ·exact .inl (.inr ⟨o,e _ _ h⟩)
 ·exact .inr h
abbrev cO:vn->adX->Prop:=λ_ _=>False
theorem GL {m:Sem α}{Q : α->adX->Prop}(h:wpAny M A m Q cO s):wpAny M A m Q E s:=
 afn h (λ_ _ q=>q) λ_ _ z=>z.elim
abbrev mK (ifs:List Expr)(env:Env):Sem Bool:=
 forIn ifs true λc r=>if r=true then do let ok<-isTrue c env (eval c env);pure (ForInStep.yield ok)else pure (ForInStep.yield r)
theorem MN (I:Nat->adX->Prop)(turn:∀n s,I n s->wpAny (model P w) A (pyNext it) (λr s1=>match r with
   |none=>R (.ok .next) s1
   |some v=>wpAny (model P w) A (letOwnedTupleGo tg it v) (λ_ s2=>wpAny (model P w) A (assign tg env v) (λ_ s3=>
     wpAny (model P w) A (mK ifs env) (λok s4=>if ok=true then wpAny (model P w) A (eval elt env) (λx s5=>
       wpAny (model P w) A (call (.builtin "list.append") [acc,x]) (λ_ s6=>∃m,m<n/\I m s6) cO s5) cO s4
      else ∃m,m<n/\I m s4) cO s3) cO s2) cO s1) cO s)(n:Nat)(h:I n s):codeAny (model P w) A (.compLoop (.ListComp elt [⟨tg,iter,ifs,0⟩] sc pos) 0 it acc env) R s:=by
 refine codeAny_loop rfl I (λn s hI=>?_) n h;refine wpAny_noted (GL ?_);refine ar (afV (ar (aE (turn n s hI) λr s1 h1=>?_)));cases r with
 |none=>exact wpAny_pure h1
 |some v=>
  refine ar (aE h1 λ_ s2 h2=>ar (aE h2 λ_ s3 h3=>ar (aE h3 λok s4 h4=>?_)));cases ok with
  |false=>exact wpAny_pure ⟨rfl,h4⟩
  |true=>exact ar (ar (aE h4 λx s5 h5=>ar (aE h5 λ_ s6 h6=>wpAny_pure (wpAny_pure ⟨rfl,h6⟩))))
theorem uC:∀names n acc y,(∃c,acc.lookup y=some c)->∃c,(cellsFrom n names acc).lookup y=some c
 |[],_,_,_,h=>h
 |(name,kind)::r,n,acc,y,⟨c,h⟩=>by
  unfold cellsFrom;split
  ·refine uC r _ _ y ?_
   grind
  ·exact uC r _ _ y ⟨c,h⟩
theorem yM:∀names n acc y,(y,NameKind.cell)∈names->∃c,(cellsFrom n names acc).lookup y=some c
 |[] => λ_ _ _ h=>nomatch h
 |(name,kind)::r=>λn acc y h=>by
  unfold cellsFrom;obtain e|h:=ff.mp h
  ·cases e
   exact uC r _ _ _ ⟨n,'J'⟩
  ·split
   ·exact yM r _ _ y h
   ·exact yM r _ _ y h
theorem ug:∀names n acc y c,(cellsFrom n names acc).lookup y=some c->acc.lookup y=some c\/(n<=c/\(y,NameKind.cell)∈names)
 |[] => λ_ _ _ _ h=>.inl h
 |(name,kind)::r=>λn acc y c h=>by
  unfold cellsFrom at h;split at h
  ·rename_i hk
   obtain q|⟨q1,q2⟩:=ug r _ _ y c h
   ·grind
   ·grind
  ·obtain q|⟨q1,q2⟩:=ug r _ _ y c h
   ·simp_all
   ·simp_all
theorem DP:∀names n acc y,(y,NameKind.cell)∉names->(cellsFrom n names acc).lookup y=acc.lookup y
 |[] => λ_ _ _ _=>rfl
 |(name,kind)::r=>λn acc y h=>by
  unfold cellsFrom;have hr:=λz=>h (.tail _ z)
  split
  ·rename_i hk
   rw[DP r _ _ y hr,LG]
   grind
  ·exact DP r _ _ y hr
theorem DQ:∀names (n:Nat) (acc:List (Str×adV)),(∀y c,acc.lookup y=some c->c<n)->(∀y z c,acc.lookup y=some c->acc.lookup z=some c->y=z) ->
  ∀y z c,(cellsFrom n names acc).lookup y=some c->(cellsFrom n names acc).lookup z=some c->y=z
 |[] => λ_ _ _ h=>h
 |(name,kind)::r=>λn acc h1 h2=>by
  unfold cellsFrom;split
  ·refine DQ r _ _ (λy c e=>?_) λy z c e e'=>?_
   ·grind
   ·grind
  ·exact DQ r _ _ h1 h2
theorem yv:∀names h acc y c,(cellsFrom h.objs.size names acc).lookup y=some c->acc.lookup y=some c\/(pushCells h names).IsCell c none
 |[] => λ_ _ _ _ e=>.inl e
 |(name,kind)::r=>λh acc y c e=>by
  unfold cellsFrom at e;unfold pushCells;split
  ·rename_i hk
   rw[uu hk]at e;rw[show h.objs.size+1=(h.push {cls:=.type "cell",data:=.cell none}).objs.size from(ae1 ..).symm]at e;obtain q|q:=yv r _ _ y c e
   ·rw[LG]at q;split at q
    ·cases q
     exact .inr (Heap.IsCell.keeps ⟨_,BS _ rfl,rfl⟩ (aeK r _))
    ·simp_all
   ·simp_all
  ·rename_i hk
   rw[rf hk]at e;exact yv r _ _ y c e
theorem Je {code:vn}(hQ:Q (newEnv scope s.heap.objs.size globals (cellsFrom (s.heap.objs.size+1) scope.names cl) qual func code (some env) builtins) {s with heap:=pushCells (s.heap.push {cls:=.type "dict",data:=.dict #[]}) scope.names}):
  wpAny M A (newFunctionEnv scope globals cl [] qual func code (some env) builtins) Q E s:=by
 refine ar (wpAny_alloc ?_);refine ar (wpAny_layCells _ (λname kind cells=>'X') _ _ _ _ ?_);rw[ae1 ..];exact ar (wpAny_pure (wpAny_pure hQ))
def dI (X:Cx)(own:List Str)(fr:List Nat)(sc:Scope)(cl:List (Str×adV))(C:adV)(s:adX)(H:Hp)(ex:List adV)(pn:List (adV×Obj)):Cx where
 prog:=X.prog
 w:=X.w
 K:=X.K
 mg:=X.mg
 base:=X.base
 A:=X.A
 N:=own++fr.map λj=>X.N.getD j ""
 dZ:=s
 vB:=H
 env:=compEnvC sc (cellsFrom (C+1) sc.names cl) C X.env
 outer:=X.stack
 stack:=X.stack
 ex:=ex
 fn:=λy=>(cl.lookup y).isNone
 calm:=X.calm
 pn:=pn
 xe:=cO
def mL (own:List Str)(fr:List Nat)(σ:St):St:=own.map (λ_=>none)++fr.map λj=>(σ[j]?).join
structure iR (X:Cx) (sc:Scope) (cl:List (Str×adV)) (fr:List Nat):Prop where
 Qc:closureFor sc X.env=pure cl
 kind:sc.kind=.function
 cells:∀y,(y,NameKind.cell)∈sc.names->cl.lookup y=none
 names:∀y∈sc.names,y.2=.local->sc.names.lookup y.1=some .local
 sub:∀y c,cl.lookup y=some c->X.env.cells.lookup y=some c
 has:∀y,((relabel sc X.env).names.lookup y=some .cell\/(relabel sc X.env).names.lookup y=some .free)->(∃c,cl.lookup y=some c)\/(y,NameKind.cell)∈sc.names
 frN:∀j∈fr,∃y,X.N[j]?=some y/\((relabel sc X.env).names.lookup y=some .cell\/(relabel sc X.env).names.lookup y=some .free)/\iF X.env.scope y/\X.env.scope.names.lookup y≠some .local/\∃c,cl.lookup y=some c
def Ai (wi:TI)(g:TG)(tt:TT)(te:TE)(own:List Str)(fr:List Nat):TE:=λσ H Q=>wi σ H λJ H1=>∀acc,H1 acc=none ->
 ∃W:Nat->Nat->List V->St->Hp->Prop,(∃m,W 0 m [] (mL own fr σ) (upd H1 acc (.lst [])))/\∀i m ys ao H2,W i m ys ao H2->H2 acc=some (.lst ys)/\ys.length<sizeLine /\
  ((J.stop i H2/\Q (.ref acc) H2)\/(J.go i H2/\∃N:List V->St->Hp->Prop,(∀zs cZ H3,N zs cZ H3->∃m',m'<m/\W (i+1) m' zs cZ H3) /\
   ∀x H3,J.v7 i H2 x H3->g x ao H3 λcZ H4=>tt cZ H4 λb H5=>if b=true then te cZ H5 (λy H6=>H6 acc=some (.lst ys)/\N (ys++[y]) cZ (upd H6 acc (.lst (ys++[y]))))else N ys cZ H5))
theorem Y3 {N:List Str}(h:N[j]?=some y):N.getD j ""=y:='J'
theorem lcInv {σ:St}{fp:List adV}(L:iR X sc cl fr)(I:Inv X pins σ H s)(Aj:∀b∈fp,jr X pins H b)(bD:∀b∈fp,b<s.heap.objs.size)(kN:h4.Ns s.heap.objs.size λ_=>none)(kp:∀b o,s.heap.get? b=some o->h4.get? b=some o)(qE:∀y c,(cellsFrom (s.heap.objs.size+1) sc.names cl).lookup y=some c->cl.lookup y=some c\/h4.IsCell c none):Inv (dI X own fr sc cl s.heap.objs.size s H fp (X.pn++pins)) [] (mL own fr σ) H {s with heap:=h4,toks:=tk}:=by
 have noL:∀{b:adV} {o:Obj},s.heap.get? b=some o->b≠s.heap.objs.size:=λe=>AN (nt e)
 have hex:∀b∈(dI X own fr sc cl s.heap.objs.size s H fp (X.pn++pins)).ex,b∈fp:=λb z=>z
 have qo:∀b,b≠X.env.locals->b∉X.fs->b∉fH X.stack:=λb h1 h2 z=>(ff.mp (I.uP b z)).elim h1 h2
 have MO:=λy c e=>I.cell y c (L.sub y c e)
 have split:∀y c,(cellsFrom (s.heap.objs.size+1) sc.names cl).lookup y=some c->cl.lookup y=some c\/s.heap.objs.size+1<=c:=λy c e=>(ug _ _ _ y c e).imp id And.left
 refine⟨⟨I.ok.mod,L.kind,I.ok.glob,I.ok.blt,br _,DQ _ _ _ (λy c e=>by obtain⟨v,q⟩:=MO y c e;exact aer q.lt) (λy z c h1 h2=>I.ok.inj y z c (L.sub y c h1) (L.sub z c h2)),λy hy=>(L.has y hy).elim (uC _ _ _ y) (yM _ _ _ y),λy c hy e=>?_,I.ok.hd,I.ok.frames,.inl rfl,
   λb hb=>⟨AN (bD b (hex b hb)),λy c e=>(split y c e).elim (λq=>(Aj b (hex b hb)).2.2.2.2.1 y c (L.sub y c q)) λq=>ael (zd (bD b (hex b hb)) (aes q))⟩,I.bs,Cs I.ok.oG I.sz,λb o e z=>?_,λb z=>?_,I.stack,I.KH⟩,
  rfl,I.bare,Un.kept kp,⟨_,kN,λi y v h1 h2 h3=>?_⟩,λy c e=>?_,I.aL.fresh (br _),λy c e=>(split y c e).elim (λq=>I.lE y c (L.sub y c q)) λq=>I.aL.fresh (aes q),λp hp=>?_,I.aL.kept kp,?_⟩
 ·have fY:(cl.lookup y).isNone=true:=hy;obtain q|q:=split y c e
  ·rw[q]at fY;cases fY
  ·exact aes q
 ·obtain q|q:=(Aj b (hex b z)).2.2.2.1
  ·exact I.ok.vC b o e q
  ·exact absurd (zd (nt (I.ok.bs b o e).1) q) (aep _)
 ·exact qo b (Aj b (hex b z)).2.1 (Aj b (hex b z)).2.2.1
 ·have wo:(own++fr.map λj=>X.N.getD j "")[i]?=some y:=h1;have oM:(own.map (λ_=>none)++fr.map λj=>(σ[j]?).join)[i]?=some (some v):=h2;by_cases hi:i<own.length
  ·rw[Cf (by simpa using hi),l8]at oM;cases q:own[i]? with
   |none=>rw[q]at oM;cases oM
   |some z=>rw[q]at oM;cases oM
  ·rw[wb 'O',l8]at wo;rw[wb (by simpa using hi),l8,aa]at oM;cases q:fr[i-own.length]? with
   |none=>rw[q]at wo;cases wo
   |some j=>
    rw[q]at wo oM;obtain⟨y',n1,n2,n3,n4,c',e'⟩:_:=L.frN j (ba q);have ey:y'=y:=by
     have this:X.N.getD j ""=y:=FF wo;rw[Y3 n1]at this;exact this
    subst ey;have ev : σ[j]?=some (some v):=by
     have z:(σ[j]?).join=some v:=FF oM;cases q2 : σ[j]? with
     |none=>rw[q2]at z;cases z
     |some o=>rw[q2]at z;exact congrArg some z
    obtain⟨m,_,hl⟩:_:=I.loc;obtain⟨u,r,l⟩:=hl j y' v n1 ev n3;refine⟨u,r,.inr ⟨n2,?_⟩⟩;obtain⟨k,_⟩|⟨_,c,e,z⟩:_:=l
    ·exact absurd k n4
    ·have:=L.sub y' c' e';rw[e]at this;cases this;obtain⟨o,ho,hd⟩:=z;exact⟨_,(DP _ _ _ y' λz=>by rw[L.cells y' z]at e';cases e').trans e',o,kp _ o ho,hd⟩
 ·obtain q|q:=qE y c e
  ·obtain⟨v,o,ho,hd⟩:_:=MO y c q;exact⟨v,o,kp c o ho,hd⟩
  ·exact⟨none,q⟩
 ·have Ak:p∈X.pn++pins:=by
   have z:p∈(X.pn++pins)++[]:=hp;simpa using z
  obtain⟨e,n,ne,nf,d⟩:_:=I.pin p Ak;exact⟨kp _ _ e,n,noL e,qo _ ne nf,d⟩
 ·show(own.map (λ_=>(none))++fr.map λj=>(σ[j]?).join).length=(own++fr.map λj=>X.N.getD j "").length;simp
theorem OX
  (L:iR X sc cl fr)(hc:X.calm=true)(hi:PI X tg iter wi)(hg:∀C s H ex pn,PG (dI X own fr sc cl C s H ex pn) tg g)(ht:∀C s H ex pn (pins:List (adV×Obj)) (s1:adX) (ao:St) (H1:Hp) (Q:Bool->Hp->Prop),Inv (dI X own fr sc cl C s H ex pn) pins ao H1 s1->tt ao H1 Q ->
   wpAny (model X.prog X.w) X.A (mK ifs (compEnvC sc (cellsFrom (C+1) sc.names cl) C X.env)) (TP (dI X own fr sc cl C s H ex pn) pins ao Q) cO s1)(he:∀C s H ex pn,PE (dI X own fr sc cl C s H ex pn) elt te)(hs:∀x,foldedSetIterable iter X.env x=pure x:=by intro _;rfl):
  PE X (.ListComp elt [⟨tg,iter,ifs,0⟩] sc pos) (Ai wi g tt te own fr):=by
 intro pins s σ H Q I h;refine wpAny_comprehension_free rfl hs L.Qc L.kind L.names (aE (hi pins s σ H _ I h) λv s1 h1=>aE h1 λAc s2 h2=>?_);obtain⟨it,fp,tn,J,H2,e,I2,T,aZ,f2,h2⟩:_:=h2;subst e;refine SO ?_;have I3:=I2.zN (t':=s2.toks) .nil (AM _);have n2:=I2.fresh;obtain⟨W,⟨m0,w0⟩,turn⟩:_:=h2 _ n2;have wq:∀b∈fp,b<s2.heap.objs.size:=λb hb=>by
  obtain⟨o,eo,_⟩:=T.obj 0 _ aZ b hb;exact nt eo
 have eF:∀b∈fp,jr X pins (upd H2 s2.heap.objs.size (.lst [])) b:=λb hb=>⟨by rw[aQ (AN (wq b hb))];exact(f2 b hb).1,(f2 b hb).2⟩
 generalize gQ:({s2 with heap:=s2.heap.push {cls:=.type "list",data:=.seq ([]).toArray}}:adX)=s3 at I3;have fU:tn 0 s3.heap:=by
  rw[<- gQ];exact T.keep 0 _ _ aZ λb hb o eo=>mf _ eo
 have qG:∀b∈fp,b<s3.heap.objs.size:=λb hb=>by
  obtain⟨o,eo,_⟩:=T.obj 0 _ fU b hb;exact nt eo
 generalize tE:upd H2 s2.heap.objs.size (.lst [])=H3 at I3 eF w0;generalize s2.heap.objs.size=acc at turn w0 tE ⊢;refine Je ?_;have kN:(pushCells (s3.heap.push {cls:=.type "dict",data:=.dict #[]}) sc.names).Ns s3.heap.objs.size λ_=>none:=(Heap.Ns.new s3.heap (.type "dict")).keeps (aeK _ _)
 have kp:∀b o,s3.heap.get? b=some o->(pushCells (s3.heap.push {cls:=.type "dict",data:=.dict #[]}) sc.names).get? b=some o:=λb o eo=>aeK _ _ b o (mf _ eo)
 have qE:=λy c e=>
  yv sc.names (s3.heap.push {cls:=.type "dict",data:=.dict #[]}) cl y c (by rw[ae1];exact e)
 generalize hh4:pushCells (s3.heap.push {cls:=.type "dict",data:=.dict #[]}) sc.names=h4 at kN kp qE;have I4:=lcInv (own:=own) (tk:=s3.toks) L I3 eF qG kN kp qE;have wt:=T.keep 0 _ _ fU λb hb o eo=>kp b o eo
 have stat:∀{H':Hp},(∀b∈fp,H' b=none)->∀b∈fp,jr (dI X own fr sc cl s3.heap.objs.size s3 H3 fp (X.pn++pins)) [] H' b:=λ{H'} hn b hb=>
  ⟨hn b hb,AN (qG b hb),λz=>(ff.mp (I3.uP b z)).elim (eF b hb).2.1 (eF b hb).2.2.1,.inl hb,λy c e=>(ug _ _ _ y c e).elim (λq=>(eF b hb).2.2.2.2.1 y c (L.sub y c q)) λq=>ael (zd (qG b hb) (aes q.1)),λp hp=>(eF b hb).2.2.2.2.2 p (by
   have z:p∈(X.pn++pins)++[]:=hp;simpa using z)⟩
 have loop:codeAny (model X.prog X.w) X.A (.compLoop (.ListComp elt [⟨tg,iter,ifs,0⟩] sc pos) 0 (.ref it) (.ref acc) (compEnvC sc (cellsFrom (s3.heap.objs.size+1) sc.names cl) s3.heap.objs.size X.env))
   (compPost (model X.prog X.w) X.A X.xe none (EP X pins σ Q) (.ref acc) s3.heap.objs.size) {s3 with heap:=h4,toks:=s3.toks}:=by
  refine MN (λn s'=>∃i ys ao H1,Inv (dI X own fr sc cl s3.heap.objs.size s3 H3 fp (X.pn++pins)) [] ao H1 s'/\tn i s'.heap/\(∀b∈fp,H1 b=none)/\W i n ys ao H1) ?_ m0 ⟨0,[],_,H3,I4,wt,λb hb=>(eF b hb).1,w0⟩;intro n s5 z9;obtain⟨i,ys,nF,H5,I5,nB,qA,w5⟩:_:=z9;obtain⟨dS,hlen,hh⟩:=turn i n ys nF H5 w5;obtain⟨stop,qn⟩|⟨go,N,hN,step⟩:=hh
  ·refine aE (T.done (dI X own fr sc cl s3.heap.objs.size s3 H3 fp (X.pn++pins)) rfl rfl rfl hc i [] s5 nF H5 cO I5 (stat qA) nB stop) λr s6 z9=>?_
   obtain⟨hr,I6⟩:=z9;subst hr;obtain⟨m6,GN,_⟩:=id I6.loc;refine⟨m6,GN,λh7 nG=>⟨.ref acc,H5,?_,rfl,qn⟩⟩;have old:∀b o,s3.heap.get? b=some o->b≠s3.heap.objs.size:=λb o eo=>AN (nt eo)
   have u6:=I6.base;have u7:Un (fH X.stack) fp H3 H5 s3.heap h7:=
    ⟨λb o eo nn hb hx=>(nG.2 b (old b o eo)).trans (u6.keep b o eo nn hb hx),λb o eo nn hb hx=>by
     obtain⟨sl,q⟩:=u6.slot b o eo nn hb hx;exact⟨sl,(nG.2 b (old b o eo)).trans q⟩,u6.free,λb o eo hx=>by
     obtain⟨o',q⟩:=u6.there b o eo hx;exact⟨o',(nG.2 b (old b o eo)).trans q⟩,u6.lK,u6.ky,u6.lL⟩
   have fC:H5 s3.heap.objs.size=none:=I6.free;have FZ:=λb ob eb=>by
    refine(I6.aL b ob eb).ni (λc w' kJ q=>(nG.2 c ?_).trans q) (λ_ q=>q) λ_ _ q=>q
    rintro rfl;obtain z|z:=kJ
    ·rw[<- z,fC]at eb;cases eb
    ·rw[fC]at z;cases z
   exact I3.OJ (s':={s6 with heap:=h7}) I6.os u7 FZ I6.bare λb hb=>⟨(eF b hb).2.2.2.1,(eF b hb).2.1,(eF b hb).2.2.2.2.1,(eF b hb).2.2.2.2.2⟩
  ·refine aE (T.item (dI X own fr sc cl s3.heap.objs.size s3 H3 fp (X.pn++pins)) rfl rfl rfl hc i [] s5 nF H5 cO I5 (stat qA) nB go) λr s6 z9=>?_
   obtain⟨u,hr,h6⟩:=z9;subst hr;refine aE h6 λ_ s7 z9=>?_
   obtain⟨x,H7,I7,r7,y7,qI,GO⟩:=z9;have GP:=I7.pinned (stat GO) (T.obj _ _ qI);refine aE (hg _ _ _ _ _ _ s7 nF H7 x u _ GP r7 (step x H7 y7)) λ_ s8 z9=>?_
   obtain⟨nH,H8,I8,q8⟩:=z9;have again:∀{zs:List V} {kO:St} {H9:Hp} {s9:adX},Inv (dI X own fr sc cl s3.heap.objs.size s3 H3 fp (X.pn++pins)) ([]++sr fp s7.heap) kO H9 s9->N zs kO H9 ->
     ∃m,m<n/\∃i ys ao H1,Inv (dI X own fr sc cl s3.heap.objs.size s3 H3 fp (X.pn++pins)) [] ao H1 s9/\tn i s9.heap/\(∀b∈fp,H1 b=none)/\W i m ys ao H1:=λ{zs kO H9 s9} I9 n9=>by
    obtain⟨m',hm,w9⟩:=hN zs kO H9 n9;refine⟨m',hm,i+1,zs,kO,H9,I9.uk,T.keep _ _ _ qI λb hb o e=>(I9.pin (b,o) (l7 _ (l7 _ (rJ hb e)))).1,λb hb=>?_,w9⟩;obtain⟨o,e,d⟩:=T.obj _ _ qI b hb;exact(I9.pin (b,o) (l7 _ (l7 _ (rJ hb e)))).2.1
   refine aE (ht _ _ _ _ _ _ s8 nH H8 _ I8 q8) λok s9 z9=>?_
   obtain⟨H9,I9,q9⟩:=z9;cases ok with
   |false=>exact again I9 (by simpa using q9)
   |true=>
    refine aE (he _ _ _ _ _ _ s9 nH H9 _ I9 q9) λz jC z9=>?_
    obtain⟨y,nI,GQ,GR,GU,GV⟩:=z9;refine aE (oY _ jC nH nI (.ref acc) [y] (.ref acc) [z] (λ_ H'=>N (ys++[y]) nH H') GQ rfl (.cons GR .nil) ⟨acc,ys,y,rfl,rfl,GU,hlen,GV⟩) λ_ s11 ⟨_,H11,GW,_,GX⟩=>again GW GX
 rw[<- gQ]at loop ⊢;exact codeAny_compStart_list loop (GL (T.self _ 0 _ _ _ wt (by rw[gQ];rw[gQ]at loop;exact loop)))
theorem Y4 {n:Int}(h:n.natAbs<2^k)(hk : 0<k):n.natAbs.log2<k:=by
 by_cases z:n.natAbs=0
 ·simp_all
 ·exact(Nat.log2_lt z).mpr h
section
variable {X:Cx}
def OY (i j:Int):Prop:=i.natAbs<2^8000/\j.natAbs<2^8000
theorem Y5:cN X (binaryOp .Mult) (rI OY λi j=>.int (i*j)):=v9 λ_ _ _ _ _ _ _ hc q=>
 mul_int q (IntMulOk.of_le (intBits_le_iff.mpr hc.1) (intBits_le_iff.mpr hc.2) 'Q')
def vf (_ j:Int):Prop:=0<j/\j.natAbs<2^8000
theorem XM:cN X (binaryOp .FloorDiv) (rI vf λi j=>.int (i/j)):=v9 λi j _ _ _ _ _ hc q=>by
 have h1:(0:Int)<j:=hc.1;refine floordiv_int 'O' (by rw[Int.fdiv_eq_ediv_of_nonneg i 'O'];exact q) (.inl (PyProof.noPylong_of_log2 ?_));exact Nat.lt_trans (Y4 hc.2 'Q') 'Q'
theorem V9 (h0 : 0<=hi)(h1:hi<2^30)(c0 : 0<c)(c1:c<2^30):Builtin.Range.small 0 hi c=true:=by
 unfold Builtin.Range.small;rw[rangeSize_pos 'Z' h0];have a0 : 0<=(hi+c-1)/c:=Int.ediv_nonneg 'Z' 'Z';have a2:(hi+c-1)/c<=hi+c-1:=af1 _ 'Z';have a3:=ad1 a0 'Z';have cc:=c0;simp[Builtin.Range.rangeFitsLong,af7,LM,cc];omega
theorem Bc:∀{ns:LI} {its:List vn},Vals (ns.map V.int) its->∃xs:List (Int×Tok),its=xs.map (λp=>Value.int p.1 p.2)/\xs.map (·.1)=ns
 |[],_,.nil=>⟨[],rfl,rfl⟩
 |n::ns,_,.cons r t=>by
  obtain⟨tk,rfl⟩:=r;obtain⟨xs,rfl,rfl⟩:=Bc t;exact⟨(n,tk)::xs,rfl,rfl⟩
def acP (K:Frag):List V->Hp->VK->Prop:=λxs H Q=>∃(p:adV) (ns:LI),xs=[.ref p]/\aM K H p (ns.map V.int)/\Q (.int ns.sum) H
theorem JX (hc:X.calm=true):eY X (.builtin "sum") (acP X.K):=by
 intro pins s σ H xs us Q I r h;obtain⟨p,ns,rfl,hq,q⟩:_:=h;cases r with
 |cons r1 rr=>
  cases rr
  cases r1
  obtain⟨its,rv,pl,hz⟩:_:=I.list hq;obtain⟨zs,rfl,rfl⟩:_:=Bc rv;refine PySem.sum_intListG (xs:=zs.toArray) (I.ok.hd hc) (by simpa [PySem.intItems]using pl.isList) λh' tk t' hk=>⟨.int _,H,I.kept (t':=tk) hk,⟨t',rfl⟩,?_⟩
  rw[PySem.preSum_eq,List.take_of_length_le 'Y'];exact q
end
inductive Dv where
 |fl (v:V)
 |lst (ds:List Dv)
 |tup (ds:List Dv)
mutual
noncomputable def bX:Dv->Dv->Bool
 | .fl x,.fl y=>jV x y
 | .lst a,.lst b=>gK a b
 | .tup a,.tup b=>gK a b
 |_,_=>false
noncomputable def gK:List Dv->List Dv->Bool
 |[],[] => true
 |x::r,y::q=>bX x y&&gK r q
 |_,_=>false
end
mutual
noncomputable def de:Dv->Nat
 | .fl _=>0
 | .lst a=>fc a+1
 | .tup a=>fc a+1
noncomputable def fc:List Dv->Nat
 |[] => 0
 |x::r=>max (de x) (fc r)
end
mutual
noncomputable def Hv (K:Frag)(H:Hp):Dv->V->Prop
 | .fl v,x=>x=v/\iU v=true
 | .lst ds,x=>∃a xs,x=.ref a/\aM K H a xs/\aH K H ds xs
 | .tup ds,x=>∃a xs,x=.ref a/\cS K H a xs/\aH K H ds xs
noncomputable def aH (K:Frag)(H:Hp):List Dv->List V->Prop
 |[],xs=>xs=[]
 |d::ds,xs=>∃x r,xs=x::r/\Hv K H d x/\aH K H ds r
end
theorem JY (h:iU v=true):jV v v=true:=by
 cases v<;>first|rfl|(simp[jV];done)|(exact absurd h 'Q')|(cases h)
section
variable {σ:St}
theorem JZ (I:Inv X pins σ H s)(h1:aM X.K H a xs)(h2:cS X.K H a ys):False:=by
 obtain⟨i1,_,p1,_⟩:=I.list h1;obtain⟨i2,_,p2,_⟩:=I.tuple h2;exact SeqAt.ne_of_list_tuple p1.isList p2 rfl
mutual
theorem C6 (I:Inv X pins σ H s):∀(d e:Dv) (x:V),Hv X.K H d x->Hv X.K H e x->bX d e=true
 | .fl v,.fl w,x,h1,h2=>by
  obtain⟨rfl,f⟩:=h1;obtain⟨rfl,_⟩:=h2;exact JY f
 | .fl v,.lst es,x,h1,h2=>by
  obtain⟨rfl,f⟩:=h1;obtain⟨a,xs,rfl,_⟩:=h2;cases f
 | .fl v,.tup es,x,h1,h2=>by
  obtain⟨rfl,f⟩:=h1;obtain⟨a,xs,rfl,_⟩:=h2;cases f
 | .lst ds,.fl v,x,h2,h1=>by
  obtain⟨rfl,f⟩:=h1;obtain⟨a,xs,rfl,_⟩:=h2;cases f
 | .tup ds,.fl v,x,h2,h1=>by
  obtain⟨rfl,f⟩:=h1;obtain⟨a,xs,rfl,_⟩:=h2;cases f
 | .lst ds,.lst es,x,h1,h2=>by
  obtain⟨a,xs,rfl,q,r⟩:=h1;obtain⟨b,ys,e,q',r'⟩:=h2;cases e;have:=I.JT q q';subst this;exact Cz I ds es xs r r'
 | .tup ds,.tup es,x,h1,h2=>by
  obtain⟨a,xs,rfl,q,r⟩:=h1;obtain⟨b,ys,e,q',r'⟩:=h2;cases e;have:=I.WN q q';subst this;exact Cz I ds es xs r r'
 | .lst ds,.tup es,x,h1,h2=>by
  obtain⟨a,xs,rfl,q,r⟩:=h1;obtain⟨b,ys,e,q',r'⟩:=h2;cases e;exact(JZ I q q').elim
 | .tup ds,.lst es,x,h1,h2=>by
  obtain⟨a,xs,rfl,q,r⟩:=h1;obtain⟨b,ys,e,q',r'⟩:=h2;cases e;exact(JZ I q' q).elim
theorem Cz (I:Inv X pins σ H s):∀(ds es:List Dv) (xs:List V),aH X.K H ds xs->aH X.K H es xs->gK ds es=true
 |[],[],_,_,_=>rfl
 |[],e::es,xs,h1,h2=>by
  obtain rfl:xs=[]:=h1;obtain⟨x,r,z,_⟩:=h2;cases z
 |d::ds,[],xs,h1,h2=>by
  obtain rfl:xs=[]:=h2;obtain⟨x,r,z,_⟩:=h1;cases z
 |d::ds,e::es,xs,h1,h2=>by
  obtain⟨x,r,rfl,a,b⟩:=h1;obtain⟨x',r',z,a',b'⟩:=h2;cases z;show(bX d e&&gK ds es)=true;rw[C6 I d e x a a',Cz I ds es r b b']
  rfl
end
theorem aH.length {K:Frag}:∀{ds:List Dv} {xs:List V},aH K H ds xs->ds.length=xs.length
 |[],xs,h=>by
  obtain rfl:xs=[]:=h
  rfl
 |d::ds,xs,h=>by
  obtain⟨x,r,rfl,_,b⟩:=h;rw[ID,ID,aH.length b]
theorem o8:∀{ds es:List Dv},ds.length≠es.length->gK ds es=false
 |[],[],h=>absurd rfl h
 |[],_::_,_=>rfl
 |_::_,[],_=>rfl
 |d::ds,e::es,h=>by
  show(bX d e&&gK ds es)=false;rw[o8 'J',ae2]
def pP (ds es:List Dv)(j:Nat):Bool:=match ds[j]?,es[j]? with
 |some d,some e=>bX d e
 |_,_=>false
theorem oZ:∀{ds es:List Dv},ds.length=es.length->(List.range ds.length).all (pP ds es)=gK ds es
 |[],[],_=>rfl
 |[],_::_,h=>by cases h
 |_::_,[],h=>by cases h
 |d::ds,e::es,h=>by
  rw[ID,aeT,afX,List.all_map];congr 1;exact oZ 'J'
mutual
theorem MP (I:Inv X pins σ H s):∀(d e:Dv) (A:Around) (x y:V) (u v:vn),A.units+de d<cLine->Hv X.K H d x->Hv X.K H e y->RelV x u->RelV y v->SeqAt.EqAt A s u v (bX d e)
 | .fl a,.fl b=>λA x y u v hu h1 h2 rx ry=>by
  obtain⟨rfl,f1⟩:=h1;obtain⟨rfl,f2⟩:=h2;exact MK rx ry f1 f2
 | .fl a,.lst es=>λA x y u v hu h1 h2 rx ry=>by
  obtain⟨rfl,f1⟩:=h1;obtain⟨b,ys,rfl,q,r⟩:=h2;cases ry;obtain⟨its,_,pl,_⟩:=I.list q;have bp:A.units<cLine:=hu;cases x with
  |aW=>cases rx;exact SeqAt.EqAt.none_list pl.isList bp
  |bl c=>cases rx;exact SeqAt.EqAt.bool_list c pl.isList bp
  |int c=>obtain⟨t,rfl⟩:=rx;exact SeqAt.EqAt.int_list c t pl.isList bp
  |str c=>obtain⟨t,rfl⟩:=rx;exact SeqAt.EqAt.str_list c t pl.isList bp
  |_=>cases f1
 | .fl a,.tup es=>λA x y u v hu h1 h2 rx ry=>by
  obtain⟨rfl,f1⟩:=h1;obtain⟨b,ys,rfl,q,r⟩:=h2;cases ry;obtain⟨its,_,pl,_⟩:=I.tuple q;have bp:A.units<cLine:=hu;cases x with
  |aW=>cases rx;exact SeqAt.EqAt.none_tuple pl bp
  |bl c=>cases rx;exact SeqAt.EqAt.bool_tuple c pl bp
  |int c=>obtain⟨t,rfl⟩:=rx;exact SeqAt.EqAt.int_tuple c t pl bp
  |str c=>obtain⟨t,rfl⟩:=rx;exact SeqAt.EqAt.str_tuple c t pl bp
  |_=>cases f1
 | .lst ds,.fl b=>λA x y u v hu h1 h2 rx ry=>by
  obtain⟨rfl,f2⟩:=h2;obtain⟨a,xs,rfl,q,r⟩:=h1;cases rx;obtain⟨its,_,pl,_⟩:=I.list q;have bp:A.units<cLine:=LP (aed _ _) hu;cases y with
  |aW=>cases ry;exact SeqAt.EqAt.list_none pl.isList bp
  |bl c=>cases ry;exact SeqAt.EqAt.list_bool c pl.isList bp
  |int c=>obtain⟨t,rfl⟩:=ry;exact SeqAt.EqAt.list_int c t pl.isList bp
  |str c=>obtain⟨t,rfl⟩:=ry;exact SeqAt.EqAt.list_str c t pl.isList bp
  |_=>cases f2
 | .tup ds,.fl b=>λA x y u v hu h1 h2 rx ry=>by
  obtain⟨rfl,f2⟩:=h2;obtain⟨a,xs,rfl,q,r⟩:=h1;cases rx;obtain⟨its,_,pl,_⟩:=I.tuple q;have bp:A.units<cLine:=LP (aed _ _) hu;cases y with
  |aW=>cases ry;exact SeqAt.EqAt.tuple_none pl bp
  |bl c=>cases ry;exact SeqAt.EqAt.tuple_bool c pl bp
  |int c=>obtain⟨t,rfl⟩:=ry;exact SeqAt.EqAt.tuple_int c t pl bp
  |str c=>obtain⟨t,rfl⟩:=ry;exact SeqAt.EqAt.tuple_str c t pl bp
  |_=>cases f2
 | .lst ds,.tup es=>λA x y u v hu h1 h2 rx ry=>by
  obtain⟨a,xs,rfl,q,r⟩:=h1;obtain⟨b,ys,rfl,q',r'⟩:=h2;cases rx;cases ry;obtain⟨_,_,p1,_⟩:=I.list q;obtain⟨_,_,p2,_⟩:=I.tuple q';exact SeqAt.EqAt.list_tuple p1.isList p2 (LP (aed _ _) hu)
 | .tup ds,.lst es=>λA x y u v hu h1 h2 rx ry=>by
  obtain⟨a,xs,rfl,q,r⟩:=h1;obtain⟨b,ys,rfl,q',r'⟩:=h2;cases rx;cases ry;obtain⟨_,_,p1,_⟩:=I.tuple q;obtain⟨_,_,p2,_⟩:=I.list q';exact SeqAt.EqAt.tuple_list p1 p2.isList (LP (aed _ _) hu)
 | .lst ds,.lst es=>λA x y u v hu h1 h2 rx ry=>by
  obtain⟨a,xs,rfl,q,r⟩:=id h1;obtain⟨b,ys,rfl,q',r'⟩:=id h2;cases rx;cases ry;by_cases ck:a=b
  ·subst ck;rw[C6 I _ _ _ h1 h2];exact SeqAt.EqAt.same _
  obtain⟨i1,v1,p1,_⟩:=I.list q;obtain⟨i2,v2,p2,_⟩:=I.list q';have bp:A.units<cLine:=LP (aed _ _) hu;have l1:=r.length;have l2:=r'.length;have m1:=v1.length;have m2:=v2.length;refine .of_refs ck ?_;show SeqAt.RcAt A s (.ref a) (.ref b) (gK ds es);by_cases hl:ds.length=es.length
  ·have z:=SeqAt.RcAt.lists (e:=pP ds es) p1.isList p2.isList (by simp;omega) bp (λj g1 g2=>pB I ds es A.in1 xs ys i1 i2 (by show A.units+1+fc ds<cLine;have:A.units+(fc ds+1)<cLine:=hu;omega) r r' v1 v2 j (by simpa using g1) (by simpa using g2));rw[Cn,<- m1,<- l1,oZ hl]at z;exact z
  ·rw[o8 hl];exact .lists_lengths p1.isList p2.isList (by simp;omega) bp
 | .tup ds,.tup es=>λA x y u v hu h1 h2 rx ry=>by
  obtain⟨a,xs,rfl,q,r⟩:=id h1;obtain⟨b,ys,rfl,q',r'⟩:=id h2;cases rx;cases ry;by_cases ck:a=b
  ·subst ck;rw[C6 I _ _ _ h1 h2];exact SeqAt.EqAt.same _
  obtain⟨i1,v1,p1,_⟩:=I.tuple q;obtain⟨i2,v2,p2,_⟩:=I.tuple q';have bp:A.units<cLine:=LP (aed _ _) hu;have l1:=r.length;have l2:=r'.length;have m1:=v1.length;have m2:=v2.length;refine .of_refs ck ?_;show SeqAt.RcAt A s (.ref a) (.ref b) (gK ds es);have z:=SeqAt.RcAt.tuples (e:=pP ds es) p1 p2 bp (λj g1 g2=>pB I ds es A.in1 xs ys i1 i2 (by show A.units+1+fc ds<cLine;have:A.units+(fc ds+1)<cLine:=hu;omega) r r' v1 v2 j (by simpa using g1) (by simpa using g2));have zz:((List.range (min i1.toArray.size i2.toArray.size)).all (pP ds es)&&i1.toArray.size==i2.toArray.size)=gK ds es:=by
   rw[Cn,Cn,<- m1,<- m2,<- l1,<- l2];by_cases hl:ds.length=es.length
   ·rw[hl,af8,<- hl,oZ hl];simp[hl]
   ·rw[o8 hl,afr.mpr hl,ae2]
  rw[zz]at z;exact z
theorem pB (I:Inv X pins σ H s):∀(ds es:List Dv) (A:Around) (xs ys:List V) (us vs:List vn),A.units+fc ds<cLine->aH X.K H ds xs->aH X.K H es ys->Vals xs us->Vals ys vs ->
  ∀(j:Nat) (h1:j<us.length) (h2:j<vs.length),SeqAt.EqAt A s us[j] vs[j] (pP ds es j)
 |[],es=>λA xs ys us vs hu h1 h2 r1 r2 j g1 g2=>by
  obtain rfl:xs=[]:=h1;cases r1;exact absurd g1 (VT _)
 |d::ds,[] => λA xs ys us vs hu h1 h2 r1 r2 j g1 g2=>by
  obtain rfl:ys=[]:=h2;cases r2;exact absurd g2 (VT _)
 |d::ds,e::es=>λA xs ys us vs hu h1 h2 r1 r2 j g1 g2=>by
  obtain⟨x,r,rfl,a,b⟩:=h1;obtain⟨y,q,rfl,a',b'⟩:=h2;cases r1 with
  |cons c1 t1=>cases r2 with
   |cons c2 t2=>
    have hm:fc (d::ds)=max (de d) (fc ds):=rfl;rw[hm]at hu;cases j with
    |zero=>exact MP I d e A x y _ _ (LP (Nat.add_le_add_left (Nat.le_max_left _ _) _) hu) a a' c1 c2
    |succ j=>exact pB I ds es A r q _ _ (LP (Nat.add_le_add_left (Nat.le_max_right _ _) _) hu) b b' t1 t2 j (by simpa using g1) (by simpa using g2)
end
def Qd (K:Frag)(neg:Bool):R2:=λx y H Q=>∃d e,((∃ds es,d=.lst ds/\e=.lst es)\/∃ds es,d=.tup ds/\e=.tup es)/\Hv K H d x/\Hv K H e y/\de d<=50/\Q (.bl (if neg then !bX d e else bX d e)) H
theorem DR (hr:X.A.units+64<cLine):cN X (compareOp .Eq) (Qd X.K false):=by
 intro pins s σ H x y v u Q I rx ry h;obtain⟨d,e,hk,h1,h2,hd,q⟩:_:=h;have bp:X.A.units<cLine:='O'
 obtain⟨ds,es,rfl,rfl⟩|⟨ds,es,rfl,rfl⟩:_:=hk
 ·obtain⟨a,xs,rfl,q1,r⟩:=h1;obtain⟨b,ys,rfl,q2,r'⟩:=h2;cases rx;cases ry;obtain⟨i1,v1,p1,_⟩:=I.list q1;obtain⟨i2,v2,p2,_⟩:=I.list q2;have l1:=r.length;have l2:=r'.length;have m1:=v1.length;have m2:=v2.length;have qw:fc ds+1<=50:=hd;by_cases hl:ds.length=es.length
  ·refine SeqAt.eq_listAt p1.isList p2.isList (by simp;lia) bp (λj g1 g2=>pB I ds es X.A.in1 xs ys i1 i2 (by show X.A.units+1+fc ds<cLine;lia) r r' v1 v2 j (by simpa using g1) (by simpa using g2)) ?_;rw[Cn,<- m1,<- l1,oZ hl];exact⟨.bl _,H,I,rfl,q⟩
  ·refine SeqAt.eq_list_lengthsAt p1.isList p2.isList (by simp;lia) bp ⟨.bl _,H,I,rfl,?_⟩;have z:bX (.lst ds) (.lst es)=false:=o8 hl;rw[z]at q;exact q
 ·obtain⟨a,xs,rfl,q1,r⟩:=h1;obtain⟨b,ys,rfl,q2,r'⟩:=h2;cases rx;cases ry;obtain⟨i1,v1,p1,_⟩:=I.tuple q1;obtain⟨i2,v2,p2,_⟩:=I.tuple q2;have l1:=r.length;have l2:=r'.length;have m1:=v1.length;have m2:=v2.length;have qw:fc ds+1<=50:=hd;refine SeqAt.eq_tupleAt p1 p2 bp (λj g1 g2=>pB I ds es X.A.in1 xs ys i1 i2 (by show X.A.units+1+fc ds<cLine;lia) r r' v1 v2 j (by simpa using g1) (by simpa using g2)) ⟨.bl _,H,I,rfl,?_⟩;have zz:((List.range (min i1.toArray.size i2.toArray.size)).all (pP ds es)&&i1.toArray.size==i2.toArray.size)=gK ds es:=by
   rw[Cn,Cn,<- m1,<- m2,<- l1,<- l2];by_cases hl:ds.length=es.length
   ·rw[hl,af8,<- hl,oZ hl];simp[hl]
   ·rw[o8 hl,afr.mpr hl,ae2]
  rw[zz];exact q
theorem MQ (hr:X.A.units+64<cLine):cN X (compareOp .NotEq) (Qd X.K true):=by
 intro pins s σ H x y v u Q I rx ry h;obtain⟨d,e,hk,h1,h2,hd,q⟩:_:=h;have bp:X.A.units<cLine:='Z'
 obtain⟨ds,es,rfl,rfl⟩|⟨ds,es,rfl,rfl⟩:_:=hk
 ·obtain⟨a,xs,rfl,q1,r⟩:=h1;obtain⟨b,ys,rfl,q2,r'⟩:=h2;cases rx;cases ry;obtain⟨i1,v1,p1,_⟩:=I.list q1;obtain⟨i2,v2,p2,_⟩:=I.list q2;have l1:=r.length;have l2:=r'.length;have m1:=v1.length;have m2:=v2.length;have qw:fc ds+1<=50:=hd;by_cases hl:ds.length=es.length
  ·refine SeqAt.RcNeAt.lists p1.isList p2.isList (by simp;omega) bp (λj g1 g2=>pB I ds es X.A.in1 xs ys i1 i2 (by show X.A.units+1+fc ds<cLine;omega) r r' v1 v2 j (by simpa using g1) (by simpa using g2)) _ _ _ _ ?_;rw[Cn,<- m1,<- l1,oZ hl];exact⟨.bl _,H,I,rfl,q⟩
  ·refine SeqAt.RcNeAt.lists_lengths p1.isList p2.isList (by simp;omega) bp _ _ _ _ ⟨.bl _,H,I,rfl,?_⟩;have z:bX (.lst ds) (.lst es)=false:=o8 hl;rw[z]at q;exact q
 ·obtain⟨a,xs,rfl,q1,r⟩:=h1;obtain⟨b,ys,rfl,q2,r'⟩:=h2;cases rx;cases ry;obtain⟨i1,v1,p1,_⟩:=I.tuple q1;obtain⟨i2,v2,p2,_⟩:=I.tuple q2;have l1:=r.length;have l2:=r'.length;have m1:=v1.length;have m2:=v2.length;have qw:fc ds+1<=50:=hd;refine SeqAt.RcNeAt.tuples p1 p2 bp (λj g1 g2=>pB I ds es X.A.in1 xs ys i1 i2 (by show X.A.units+1+fc ds<cLine;omega) r r' v1 v2 j (by simpa using g1) (by simpa using g2)) _ _ _ _ ⟨.bl _,H,I,rfl,?_⟩;have zz:((List.range (min i1.toArray.size i2.toArray.size)).all (pP ds es)&&i1.toArray.size==i2.toArray.size)=gK ds es:=by
   rw[Cn,Cn,<- m1,<- m2,<- l1,<- l2];by_cases hl:ds.length=es.length
   ·rw[hl,af8,<- hl,oZ hl];simp[hl]
   ·rw[o8 hl,afr.mpr hl,ae2]
  rw[zz];exact q
end
end L2
namespace L2
open PySem PySem.Spec PyProof.Rows
structure fE (K:Frag) (x qual:Str) (st:age) (dV:vn) (f:adV) (fd:FuncData):Prop where
 ex:∃(oc:vn) (od:Option adV) (kV doc pm:vn) (an:Option adV) (aN ct:vn) (i5:Array (Option vn)),
  fd=fnOf x qual (eV st) (dB st) (az st) dV kV doc pm an aN ct/\K.lookup f=some ⟨oc,od,.func fd,i5⟩/\codeIn K aN qual=true
 kp:keepIn K (.ref f)=true
structure Kn (P:agc) (w:agd) (K:Frag) (mg:Str->Option vn) (base:Heap) (CX:qC) (k:Nat) (x:Str) (f:adV) (fd:FuncData) (ps:List Str) (sp:Sp):Prop where
 ok:bS P w K mg base CX k f fd ps sp
 Q3:mg x=some (.ref f)
 kp:keepIn K (.ref f)=true
 bd:Binds K fd ps []
section
variable {K:Frag}
theorem fE.ok {st:age}(F:fE K x qual st dV f fd)(S:aY N ps (az st))(len:∀vs H Q E,sp vs H Q E->vs.length=ps.length)(EL:∀aN A outer s H vs Q E,dv k (A.deeper (envOfC qual (az st) s.heap.objs.size f aN))->sp vs H Q E ->
   ∃t,gC (lN bx P w K mg base N qual (az st) f aN A outer s H E).vY (dB st) t/\t {nx:=λ_ H'=>Q .aW H',rt:=Q} (start N vs) H):bS P w K mg base bx (k+1) f fd ps sp:=by
 obtain⟨oc,od,kV,doc,pm,an,aN,ct,i5,rfl,lk,jU⟩:_:=F.ex;refine ab0 lk jU S len λA outer s H vs Q E hr oJ=>?_
 obtain⟨t,h,q⟩:=EL aN A outer s H vs Q E hr oJ;exact⟨t,h.vY,q⟩
theorem KZ {st:age}{kV:vn}(l:K.lookup f=some ⟨oc,od,.func (fnOf x qual (eV st) (dB st) (az st) dV kV doc pm an aN ct),i5⟩)(c:codeIn K aN qual=true)(k:keepIn K (.ref f)=true):fE K x qual st dV f (fnOf x qual (eV st) (dB st) (az st) dV kV doc pm an aN ct):=⟨⟨oc,od,kV,doc,pm,an,aN,ct,i5,rfl,l,c⟩,k⟩
theorem fE.binds {st:age}(F:fE K x qual st dV f fd)(h:∀kV doc pm an aN ct us,us.length=ps.length->bindArgs (fnOf x qual (eV st) (dB st) (az st) dV kV doc pm an aN ct) ⟨us,[]⟩=pure (ps.zip us)):Binds K fd ps []:=by
 obtain⟨oc,od,kV,doc,pm,an,aN,ct,i5,rfl,lk,jU⟩:_:=F.ex;exact .all (h kV doc pm an aN ct)
end
section
variable {p pos:Pos}
theorem EW (F:Kn X.prog X.w X.K X.mg X.base bx k x f fd ps sp)(hr:dv k X.A)(hg:Gl X x)(ha:PA X (e::es) t)(eE:(x==("__debug__":Str))=false:=by decide)(he:starEach (e::es) X.env=(false,eval e X.env)::starEach es X.env:=by rfl)(cJ:(backTo pos (starEach es X.env)).any (·.1)=false:=by rfl):
  PE X (.Call (.Name x p) (e::es) [] pos) (sR sp [] E0 t):=KP F.ok hr hg F.Q3 F.kp F.bd .nil m8 ha eE he cJ
end
section
variable {K:Frag}
theorem JA (hj : σ[j]?=some (some (.ref a)))(hx:aM K H a xs)(Pv:Nat->St->Hp->Prop)(h0:Pv 0 σ H)(hk:∀i σ H,i<=xs.length->Pv i σ H->aM K H a xs)(hs:∀i x σ H,xs[i]?=some x->Pv i σ H->g x σ H λcZ H2=>tb {D with nx:=Pv (i+1),ct:=Pv (i+1),bk:=D.nx} cZ H2)(hd:∀σ H,Pv xs.length σ H->D.nx σ H):vG (sP K (dC j)) g tb D σ H:=
 ⟨_,hj,a,rfl,⟨xs,hx⟩,XD Pv h0 hk hs hd⟩
end
def ab3 (K:Frag):R2:=λx y H Q=>∃l b xs zs,x=.ref l/\y=.ref b/\aM K H l xs/\aM K H b zs/\xs.length+zs.length<=sizeLine/\∀p,H p=none->Q (.ref p) (upd H p (.lst (xs++zs)))
section
theorem OZ (pins:List (adV×Obj))(s1:adX)(ao:St)(H1:Hp)(Q:Bool->Hp->Prop)(I:Inv Y pins ao H1 s1)(h:Q true H1):wpAny (model Y.prog Y.w) Y.A (mK [] Y.env) (TP Y pins ao Q) cO s1:=
 wpAny_pure ⟨H1,I,h⟩
theorem O1 (ht:PT Y c tt)(hx:Y.xe=cO)(pins:List (adV×Obj))(s1:adX)(ao:St)(H1:Hp)(Q:Bool->Hp->Prop)(I:Inv Y pins ao H1 s1)(h:tt ao H1 Q):wpAny (model Y.prog Y.w) Y.A (mK [c] Y.env) (TP Y pins ao Q) cO s1:=by
 have z:=ht pins s1 ao H1 Q I h
 simp_all
end
def K0:TT:=λ_ H Q=>Q true H
section
theorem Lb:cN X (binaryOp .Add) (ab3 X.K):=by
 intro pins s σ H x y v u Q I rx ry h;obtain⟨l,b,xs,zs,rfl,rfl,hH,hB,hz,q⟩:_:=h;cases rx;cases ry;obtain⟨its,r,⟨⟨cl,dd,da,sl⟩,n,e,c1,c2,d1⟩,z⟩:_:=I.list hH;obtain⟨iz,r2,⟨⟨cl2,dd2,da2,sl2⟩,n2,e2,c3,c4,d2⟩,z2⟩:_:=I.list hB;subst c1 d1 c3 d2;have l1:=r.length;have l2:=r2.length;refine concat_meets ⟨_,e,rfl⟩ ⟨_,e2,rfl⟩ noFill_list_add seq_list_add PySem.F.slot_list_add PySem.F.entry_list_add (PySem.F.args_list_add_2 _ _) (list_addW l b its.toArray iz.toArray n n2 dd dd2 sl sl2 'J') ⟨e,e2,?_⟩;have ea:its.toArray++iz.toArray=(its++iz).toArray:='Y'
 rw[ea];exact⟨.ref _,_,I.zN (t':=s.toks) (r.append r2) 'J',rfl,q _ I.fresh⟩
end
end L2
namespace L2
open PySem
theorem UN:bootBuiltins "isinstance"=some (.builtin "isinstance"):='W'
theorem aaZ:bootBuiltins "abs"=some (.builtin "abs"):='W'
theorem MR:bootBuiltins "len"=some (.builtin "len"):='W'
theorem MS:bootBuiltins "sum"=some (.builtin "sum"):='W'
theorem aa0:bootBuiltins "min"=some (.builtin "min"):='W'
theorem B3:bootBuiltins "sorted"=some (.builtin "sorted"):='W'
theorem aa1:bootBuiltins "any"=some (.builtin "any"):='W'
theorem DT:bootBuiltins "int"=some (.type "int"):='W'
theorem Lc:bootBuiltins "bool"=some (.type "bool"):='W'
theorem rP:bootBuiltins "list"=some (.type "list"):='W'
theorem J0:bootBuiltins "tuple"=some (.type "tuple"):='W'
theorem aa2:bootBuiltins "zip"=some (.type "zip"):='W'
theorem Vk:bootBuiltins "enumerate"=some (.type "enumerate"):='W'
end L2
namespace L2
open PySem PySem.Spec PyProof.Rows
def gu (cells:List (Str×adV)):List (Str×NameKind)->List (Str×adV)->List (Str×adV)
 |[],cs=>cs
 |(n,k)::r,cs=>gu cells r (if k==.free then (n,(cells.lookup n).getD 0)::cs else cs)
theorem Ld (h:∀p∈sc.names,p.2=.free->∃c,env.cells.lookup p.1=some c):closureFor sc env=pure (gu env.cells sc.names []):=by
 have key:∀(names) (cs),(∀p∈names,p.2=.free->∃c,env.cells.lookup p.1=some c) ->
   (forIn names cs λx t=>match x with
    |(name,kind)=>if(kind==NameKind.free)=true then do
       let a<-cellOf env name
       pure (ForInStep.yield ((name,a)::t))
      else pure (ForInStep.yield t))=(pure (gu env.cells names cs)):=by
  intro names
  induction names with
  |nil=>intro cs _;rfl
  |cons p r ih=>
   intro cs hp;obtain⟨n,k⟩:=p;rw[List.forIn_cons];cases hk:k==NameKind.free with
   |true=>
    obtain⟨c,hc⟩:=hp (n,k) (.head _) (Cc.mp hk);have kJ:=hc;have e1:cellOf env n=pure c:=by unfold cellOf;rw[kJ]
    have e2:gu env.cells ((n,k)::r) cs=gu env.cells r ((n,c)::cs):=by
     show gu env.cells r (if(k==NameKind.free)=true then _ else _)=_;rw[hk,kJ,uu rfl]
     rfl
    rw[e2,<- ih ((n,c)::cs) λq hq=>hp q (.tail _ hq)];simp only[hk,e1]
    rfl
   |false=>
    have e2:gu env.cells ((n,k)::r) cs=gu env.cells r cs:=by
     show gu env.cells r (if(k==NameKind.free)=true then _ else _)=_;rw[hk,rf 'Q']
    rw[e2,<- ih cs λq hq=>hp q (.tail _ hq)];simp only[hk]
    rfl
 simp only[closureFor];rw[key sc.names [] h]
 rfl
theorem B4:∀names cs,(∀p∈names,p.2=.free->∃c,cells.lookup p.1=some c)->(∀y c,cs.lookup y=some c->cells.lookup y=some c) ->
  ∀y c,(gu cells names cs).lookup y=some c->cells.lookup y=some c
 |[] => λ_ _ h=>h
 |(n,k)::r=>λcs hp h=>by
  refine B4 r _ (λq hq=>hp q (.tail _ hq)) λy c e=>?_
  split at e
  ·rename_i hk
   obtain⟨c0,hc⟩:=hp (n,k) (.head _) (Cc.mp hk)
   grind
  ·simp_all
theorem Jn:∀names cs y,(∃c,cs.lookup y=some c)->∃c,(gu cells names cs).lookup y=some c
 |[],_,_,h=>h
 |(n,k)::r,cs,y,⟨c,h⟩=>by
  refine Jn r _ y ?_
  grind
theorem mE:∀names cs y,(y,NameKind.free)∈names->∃c,(gu cells names cs).lookup y=some c
 |[] => λ_ _ h=>nomatch h
 |(n,k)::r=>λcs y h=>by
  obtain e|h:=ff.mp h
  ·have e1:=congrArg (·.1) e;refine Jn r _ _ ?_
   simp_all
  ·exact mE r _ y h
theorem mem_of_lookup {κ β:Type} [BEq κ] [LawfulBEq κ]{l:List (κ×β)}{y : κ}{k : β}(h:l.lookup y=some k):(y,k)∈l:=by
 induction l with
 |nil=>cases h
 |cons p r ih=>
  grind
section
variable {K:Frag}
structure Y6 (N:List Str) (cK sc:Scope) (fr:List Nat):Prop where
 kind:sc.kind=.function
 O2:cK.kind=.function
 aa3:∀y∈sc.names,y.2≠.cell
 loc:∀y∈sc.names,y.2=.local->sc.names.lookup y.1=some .local
 qJ:∀y∈sc.names,y.2=.free->cK.names.lookup y.1=some .cell
 fH:∀j∈fr,sc.names.lookup (N.getD j "")=some .free/\j<N.length
theorem rB {env:Env}:∀{names:List (Str×NameKind)} {y:Str} {k:NameKind},(names.map λ(n,k)=>if(k==NameKind.free&&env.scope.kind==.function&&env.kindOf n==some .cell)then (n,NameKind.cell)else (n,k)).lookup y=some k ->
  ∃k0,names.lookup y=some k0/\(k=k0\/(k=.cell/\k0=.free))
 |[],_,_,h=>by cases h
 |(n,k0)::r,y,k,h=>by
  rw[JJ]at h;simp only at h;split at h
  ·rename_i hc
   rw[LG]at h ⊢;split at h
   ·simp_all
   ·exact rB h
  ·rw[LG]at h ⊢;split at h
   ·simp_all
   ·exact rB h
theorem tZ {env:Env}:∀{names:List (Str×NameKind)} {y:Str},names.lookup y=some .free ->
  (names.map λ(n,k)=>if(k==NameKind.free&&env.scope.kind==.function&&env.kindOf n==some .cell)then (n,NameKind.cell)else (n,k)).lookup y=some .cell \/
  (names.map λ(n,k)=>if(k==NameKind.free&&env.scope.kind==.function&&env.kindOf n==some .cell)then (n,NameKind.cell)else (n,k)).lookup y=some .free
 |[],_,h=>by cases h
 |(n,k0)::r,y,h=>by
  rw[JJ];rw[LG]at h;simp only;split at h
  ·grind
  ·rename_i hy
   split
   ·rw[LG,hy];exact tZ h
   ·rw[LG,hy];exact tZ h
structure XN (N:List Str) (cK sc:Scope) (fr:List Nat):Prop where
 kind:sc.kind=.function
 O2:cK.kind=.function
 own:∀y∈sc.names,y.2=.cell->∀z∈sc.names,z.2=.free->z.1≠y.1
 loc:∀y∈sc.names,y.2=.local->sc.names.lookup y.1=some .local
 qJ:∀y∈sc.names,y.2=.free->cK.names.lookup y.1=some .cell
 fH:∀j∈fr,sc.names.lookup (N.getD j "")=some .free/\j<N.length
theorem BP:∀names cs y,(∀z∈names,z.2=.free->z.1≠y)->cs.lookup y=none->(gu cells names cs).lookup y=none
 |[] => λ_ _ _ h=>h
 |(n,k)::r=>λcs y hn h=>by
  refine BP r _ y (λz hz=>hn z (.tail _ hz)) ?_;split
  ·rename_i hk
   have i6:=hn (n,k) (.head _) (Cc.mp hk)
   grind
  ·exact h
theorem AW {env:Env}:∀{names:List (Str×NameKind)} {y:Str},names.lookup y=some .cell ->
  (names.map λ(n,k)=>if(k==NameKind.free&&env.scope.kind==.function&&env.kindOf n==some .cell)then (n,NameKind.cell)else (n,k)).lookup y=some .cell
 |[],_,h=>by cases h
 |(n,k0)::r,y,h=>by
  rw[JJ];rw[LG]at h;simp only;split at h
  ·simp_all
  ·rename_i hy
   split
   ·rw[LG,hy];exact AW h
   ·rw[LG,hy];exact AW h
theorem Qe (L:XN N cK sc fr):iR ((lN CX P w K mg base N qual cK f cd A outer s H E).jq XE) sc (gu (cellsFrom (s.heap.objs.size+1) cK.names []) sc.names []) fr:=by
 have oj:∀p∈sc.names,p.2=.free->∃c,(cellsFrom (s.heap.objs.size+1) cK.names []).lookup p.1=some c:=λp hp e=>Cy (L.qJ p hp e)
 refine⟨Ld oj,L.kind,λy hy=>BP _ _ y (L.own _ hy rfl) rfl,L.loc,B4 _ _ oj (λ_ _ e=>nomatch e),λy hy=>?_,λj hj=>?_⟩
 ·have hk:sc.names.lookup y=some .free\/sc.names.lookup y=some .cell:=by
   obtain hy|hy:=hy
   ·obtain⟨k0,h1,h2⟩:=rB hy
    grind
   ·obtain⟨k0,h1,h2⟩:=rB hy;lia
  exact hk.imp (λq=>mE _ _ y (mem_of_lookup q)) mem_of_lookup
 ·obtain⟨h1,h2⟩:=L.fH j hj;have hm:=mem_of_lookup h1;have h3:=L.qJ _ hm rfl;refine⟨N.getD j "",?_,?_,.inr (.inl h3),?_,mE _ _ _ hm⟩
  ·show N[j]?=some (N.getD j "")
   simp_all
  ·exact tZ h1
  ·intro z;have z':cK.names.lookup (N.getD j "")=some .local:=z;lia
theorem lcs (L:Y6 N cK sc fr):iR ((lN CX P w K mg base N qual cK f cd A outer s H E).jq XE) sc (gu (cellsFrom (s.heap.objs.size+1) cK.names []) sc.names []) fr:=
 Qe ⟨L.kind,L.O2,λy hy e=>absurd e (L.aa3 y hy),L.loc,L.qJ,L.fH⟩
theorem cv {sc:Scope}{fr:List Nat}(a:sc.kind=.function:=by rfl)(b:cK.kind=.function:=by rfl)(c:∀y∈sc.names,y.2≠.cell:=by decide +kernel)(d:∀y∈sc.names,y.2=.local->sc.names.lookup y.1=some .local:=by decide +kernel)(e:∀y∈sc.names,y.2=.free->cK.names.lookup y.1=some .cell:=by decide +kernel)(g:∀j∈fr,sc.names.lookup (N.getD j "")=some .free/\j<N.length:=by decide +kernel):iR ((lN CX P w K mg base N qual cK f cd A outer s H E).jq XE) sc (gu (cellsFrom (s.heap.objs.size+1) cK.names []) sc.names []) fr:=lcs ⟨a,b,c,d,e,g⟩
end
structure J1 (N:List Str) (cK sc:Scope) (fr:List Nat):Prop where
 kind:sc.kind=.function
 own:∀y∈sc.names,y.2=.cell->∀z∈sc.names,z.2=.free->z.1≠y.1
 loc:∀y∈sc.names,y.2=.local->sc.names.lookup y.1=some .local
 qJ:∀y∈sc.names,y.2=.free->cK.names.lookup y.1=some .cell\/cK.names.lookup y.1=some .free
 fH:∀j∈fr,sc.names.lookup (N.getD j "")=some .free/\j<N.length
theorem acQ
  (L:J1 (pZ++qK.map λj=>X.N.getD j "") cK sc fr)(wu:∀y,(y,NameKind.free)∈cK.names->∃c,tG.lookup y=some c):
  iR (dI X pZ qK cK tG C s H ex pn) sc (gu (cellsFrom (C+1) cK.names tG) sc.names []) fr:=by
 have oj:∀p∈sc.names,p.2=.free->∃c,(cellsFrom (C+1) cK.names tG).lookup p.1=some c:=λp hp e=>by
  obtain q|q:=L.qJ p hp e
  ·exact yM _ _ _ _ (mem_of_lookup q)
  ·exact uC _ _ _ _ (wu _ (mem_of_lookup q))
 refine⟨Ld oj,L.kind,λy hy=>BP _ _ y (L.own _ hy rfl) rfl,L.loc,B4 _ _ oj (λ_ _ e=>nomatch e),λy hy=>?_,λj hj=>?_⟩
 ·have hk:sc.names.lookup y=some .free\/sc.names.lookup y=some .cell:=by
   obtain hy|hy:=hy
   ·obtain⟨k0,h1,h2⟩:=rB hy
    grind
   ·obtain⟨k0,h1,h2⟩:=rB hy
    simp_all
  exact hk.imp (λq=>mE _ _ y (mem_of_lookup q)) mem_of_lookup
 ·obtain⟨h1,h2⟩:=L.fH j hj;have hm:=mem_of_lookup h1;have hv:(relabel cK X.env).names.lookup ((pZ++qK.map λj=>X.N.getD j "").getD j "")=some .cell\/(relabel cK X.env).names.lookup ((pZ++qK.map λj=>X.N.getD j "").getD j "")=some .free:=by
   obtain q|q:=L.qJ _ hm rfl
   ·exact .inl (AW q)
   ·exact tZ q
  refine⟨_,?_,tZ h1,.inr hv,λz=>?_,mE _ _ _ hm⟩
  ·show(pZ++qK.map λj=>X.N.getD j "")[j]?=some _
   simp_all
  ·have z':(relabel cK X.env).names.lookup ((pZ++qK.map λj=>X.N.getD j "").getD j "")=some .local:=z;lia
section
variable {K:Frag}
theorem Y7 (h:X.K=K):we X (FU K):=h▸aaU
theorem J4 (h:X.K=K):we X (vH K):=h▸mJ
theorem W2 (h:X.K=K):eY X (.builtin "len") (λxs H Q=>∃p ys,xs=[.ref p]/\(aM K H p ys\/cS K H p ys)/\Q (.int ys.length) H):=h▸Vi
end
theorem aj.tup {K:Frag}{H H':Hp}{a:adV}{xs:List V}(e:aj H H')(h:cS K H a xs):cS K H' a xs:=by
 obtain (h|⟨o,h⟩)|h:=h
 ·exact .inl (.inl (e _ _ h))
 ·exact .inl (.inr ⟨o,e _ _ h⟩)
 ·exact .inr h
theorem aj.upd (e:aj H H')(hp:H p=none):aj H (L2.upd H' p o):=λb u h=>by
 rw[aQ (jZ h hp)];exact e b u h
theorem aj.new (hp:H p=none):aj H (L2.upd H p o):=(aj.refl H).upd hp
theorem lh {a:Int}(h0 : 0<=a)(h:a<2^60):a.natAbs<2^8000:=by
 lia
section
variable {K:Frag}
theorem qD.d {st:age}(F:qD K x qual st f fd):fE K x qual st .none f fd:=⟨F.ex,F.kp⟩
end
section
theorem XO (r:Vals (bs.map V.bl) its):PyProof.Rows.LSm.BoolsAre its bs:=by
 induction bs generalizing its with
 |nil=>cases r;exact .nil
 |cons y ys ih=>
  cases r with
  |cons r1 rr=>
   cases r1
   exact .cons _ (ih rr)
end
inductive Tr where
 |fz (d:Dv)
 |ow (ts:List Tr)
 |tp (ts:List Tr)
mutual
noncomputable def Ow (K:Frag)(G H:Hp):Tr->V->List adV->Prop
 | .fz d,v,fp=>fp=[]/\Hv K G d v
 | .ow ts,v,fp=>∃a vs fq,v=.ref a/\H a=some (.lst vs)/\aV K G H ts vs fq/\fp=a::fq
 | .tp ts,v,fp=>∃a vs fq,v=.ref a/\H a=some (.tup vs)/\aV K G H ts vs fq/\fp=a::fq
noncomputable def aV (K:Frag)(G H:Hp):List Tr->List V->List adV->Prop
 |[],vs,fp=>vs=[]/\fp=[]
 |t::ts,vs,fp=>∃v r f1 f2,vs=v::r/\fp=f1++f2/\Ow K G H t v f1/\aV K G H ts r f2
end
mutual
noncomputable def er:Tr->Dv
 | .fz d=>d
 | .ow ts=>.lst (fh ts)
 | .tp ts=>.tup (fh ts)
noncomputable def fh:List Tr->List Dv
 |[] => []
 |t::ts=>er t::fh ts
end
theorem pC:∀ts,fh ts=ts.map er
 |[] => rfl
 |t::ts=>by rw[fh,pC ts];rfl
mutual
theorem Hv.mono {K:Frag}{G G':Hp}(e:aj G G'):∀{d:Dv} {v:V},Hv K G d v->Hv K G' d v
 | .fl _,_,h=>h
 | .lst ds,_,⟨a,xs,h1,h2,h3⟩=>⟨a,xs,h1,e.seq h2,aH.mono e h3⟩
 | .tup ds,_,⟨a,xs,h1,h2,h3⟩=>⟨a,xs,h1,e.tup h2,aH.mono e h3⟩
theorem aH.mono {K:Frag}{G G':Hp}(e:aj G G'):∀{ds:List Dv} {vs:List V},aH K G ds vs->aH K G' ds vs
 |[],_,h=>h
 |_::_,_,⟨x,r,h1,h2,h3⟩=>⟨x,r,h1,h2.mono e,aH.mono e h3⟩
end
mutual
theorem Ow.mono {K:Frag}{G G' H H':Hp}(e:aj G G')(e':aj H H'):∀{t:Tr} {v:V} {fp:List adV},Ow K G H t v fp->Ow K G' H' t v fp
 | .fz _,_,_,⟨h1,h2⟩=>⟨h1,h2.mono e⟩
 | .ow _,_,_,⟨a,vs,fq,h1,h2,h3,h4⟩=>⟨a,vs,fq,h1,e' _ _ h2,aV.mono e e' h3,h4⟩
 | .tp _,_,_,⟨a,vs,fq,h1,h2,h3,h4⟩=>⟨a,vs,fq,h1,e' _ _ h2,aV.mono e e' h3,h4⟩
theorem aV.mono {K:Frag}{G G' H H':Hp}(e:aj G G')(e':aj H H'):∀{ts:List Tr} {vs:List V} {fp:List adV},aV K G H ts vs fp->aV K G' H' ts vs fp
 |[],_,_,h=>h
 |_::_,_,_,⟨v,r,f1,f2,h1,h2,h3,h4⟩=>⟨v,r,f1,f2,h1,h2,h3.mono e e',aV.mono e e' h4⟩
end
mutual
theorem Ow.frame {K:Frag}{G H:Hp}{a:adV}{o:HO}:∀{t:Tr} {v:V} {fp:List adV},Ow K G H t v fp->a∉fp->Ow K G (upd H a o) t v fp
 | .fz _,_,_,h,_=>h
 | .ow _,_,_,⟨b,vs,fq,h1,h2,h3,h4⟩,n=>by
  subst h4;refine⟨b,vs,fq,h1,?_,aV.frame h3 λz=>n (.tail _ z),rfl⟩;rw[aQ λz=>n (by rw[z];exact .head _)];exact h2
 | .tp _,_,_,⟨b,vs,fq,h1,h2,h3,h4⟩,n=>by
  subst h4;refine⟨b,vs,fq,h1,?_,aV.frame h3 λz=>n (.tail _ z),rfl⟩;rw[aQ λz=>n (by rw[z];exact .head _)];exact h2
theorem aV.frame {K:Frag}{G H:Hp}{a:adV}{o:HO}:∀{ts:List Tr} {vs:List V} {fp:List adV},aV K G H ts vs fp->a∉fp->aV K G (upd H a o) ts vs fp
 |[],_,_,h,_=>h
 |_::_,_,_,⟨v,r,f1,f2,h1,h2,h3,h4⟩,n=>by
  subst h2;exact⟨v,r,f1,f2,h1,rfl,h3.frame λz=>n (xy _ z),aV.frame h4 λz=>n (l7 _ z)⟩
end
mutual
theorem Ow.there {K:Frag}{G H:Hp}:∀{t:Tr} {v:V} {fp:List adV},Ow K G H t v fp->∀a∈fp,∃o,H a=some o
 | .fz _,_,_,⟨h,_⟩,a,ha=>by subst h;cases ha
 | .ow _,_,_,⟨b,vs,fq,h1,h2,h3,h4⟩,a,ha=>by
  subst h4;obtain rfl|ha:=ff.mp ha
  ·exact⟨_,h2⟩
  ·exact aV.there h3 a ha
 | .tp _,_,_,⟨b,vs,fq,h1,h2,h3,h4⟩,a,ha=>by
  subst h4;obtain rfl|ha:=ff.mp ha
  ·exact⟨_,h2⟩
  ·exact aV.there h3 a ha
theorem aV.there {K:Frag}{G H:Hp}:∀{ts:List Tr} {vs:List V} {fp:List adV},aV K G H ts vs fp->∀a∈fp,∃o,H a=some o
 |[],_,_,⟨_,h⟩,a,ha=>by subst h;cases ha
 |_::_,_,_,⟨v,r,f1,f2,h1,h2,h3,h4⟩,a,ha=>by
  subst h2;obtain ha|ha:=qr.mp ha
  ·exact h3.there a ha
  ·exact aV.there h4 a ha
end
mutual
theorem Ow.hv {K:Frag}{G H G':Hp}(e:aj G G'):∀{t:Tr} {v:V} {fp:List adV},Ow K G H t v fp->(∀a∈fp,G' a=H a)->Hv K G' (er t) v
 | .fz _,_,_,⟨_,h⟩,_=>h.mono e
 | .ow _,_,_,⟨b,vs,fq,h1,h2,h3,h4⟩,q=>by
  subst h4;exact⟨b,vs,h1,aM.of ((q b (.head _)).trans h2),aV.hv e h3 λa ha=>q a (.tail _ ha)⟩
 | .tp _,_,_,⟨b,vs,fq,h1,h2,h3,h4⟩,q=>by
  subst h4;exact⟨b,vs,h1,cS.of ((q b (.head _)).trans h2),aV.hv e h3 λa ha=>q a (.tail _ ha)⟩
theorem aV.hv {K:Frag}{G H G':Hp}(e:aj G G'):∀{ts:List Tr} {vs:List V} {fp:List adV},aV K G H ts vs fp->(∀a∈fp,G' a=H a)->aH K G' (fh ts) vs
 |[],_,_,⟨h,_⟩,_=>h
 |_::_,_,_,⟨v,r,f1,f2,h1,h2,h3,h4⟩,q=>by
  subst h2;exact⟨v,r,h1,h3.hv e λa ha=>q a (xy _ ha),aV.hv e h4 λa ha=>q a (l7 _ ha)⟩
end
theorem aV.length {K:Frag}:∀{ts:List Tr} {vs:List V} {fp:List adV},aV K G H ts vs fp->ts.length=vs.length
 |[],_,_,z9=>by obtain⟨h,_⟩:=z9;simp_all
 |_::_,_,_,z9=>by obtain⟨v,r,f1,f2,h1,h2,h3,h4⟩:=z9;subst h1;rw[ID,ID,aV.length h4]
theorem aV.append {K:Frag}:∀{ts us:List Tr} {vs ws:List V} {f1 f2:List adV},aV K G H ts vs f1->aV K G H us ws f2->aV K G H (ts++us) (vs++ws) (f1++f2)
 |[],us,_,ws,_,f2,z9,q=>by obtain⟨h,h'⟩:=z9;simp_all
 |_::_,us,_,ws,_,f2,z9,q=>by
  obtain⟨v,r,g1,g2,h1,h2,h3,h4⟩:=z9;subst h1 h2;exact⟨v,r++ws,g1,g2++f2,rfl,'J',h3,aV.append h4 q⟩
theorem aH.jD {K:Frag}:∀{ds:List Dv} {vs:List V},aH K G ds vs->aV K G H (ds.map .fz) vs []
 |[],_,h=>⟨h,rfl⟩
 |_::_,_,⟨x,r,h1,h2,h3⟩=>⟨x,r,[],[],h1,rfl,⟨rfl,h2⟩,aH.jD h3⟩
structure Step (G H G' H':Hp):Prop where
 g:aj G G'
 h:aj H H'
 s:aj G' H'
 n:∀a,G a=none->G' a≠none->H a=none
theorem Step.refl (s:aj G H):Step G H G H:=⟨aj.refl _,aj.refl _,s,λa h h'=>absurd h h'⟩
theorem Step.trans (a:Step G H G1 H1)(b:Step G1 H1 G2 H2):Step G H G2 H2:=
 ⟨a.g.trans b.g,a.h.trans b.h,b.s,λx h h'=>by
  cases q:G1 x with
  |none=>exact a.h.free (b.n x q h')
  |some o=>exact a.n x h 'J'⟩
theorem aj.acR (s:aj G H):aj (L2.upd G p o) (L2.upd H p o):=λb u h=>by
 unfold L2.upd at h ⊢;split
 ·simp_all
 ·rename_i e;rw[rf e]at h;exact s b u h
theorem Step.new (s:aj G H)(hp:H p=none):Step G H (upd G p o) (upd H p o):=
 ⟨aj.new (s.free hp),aj.new hp,s.acR,λa h h'=>by
  grind [aQ]⟩
theorem Step.jR (s:aj G H)(hp:H p=none):Step G H G (upd H p o):=
 ⟨aj.refl _,aj.new hp,s.trans (aj.new hp),λa h h'=>absurd h h'⟩
structure Nw (H G':Hp) (fq:List adV):Prop where
 n:∀a∈fq,H a=none
 g:∀a∈fq,G' a=none
 d:fq.Nodup
theorem Nw.nil:Nw H G []:=⟨λ_ h=>(nomatch h),λ_ h=>(nomatch h),.nil⟩
def Kv (K:Frag)(G H:Hp)(t:Tr)(Q:VK):Prop:=∀v G' H' fq,Step G H G' H'->Ow K G' H' t v fq->Nw H G' fq->Q v H'
theorem Kv.step {K:Frag}(k:Kv K G H t Q)(e:Step G H G1 H1):Kv K G1 H1 t Q:=λv G' H' fq st o w=>
 k v G' H' fq (e.trans st) o ⟨λa ha=>e.h.free (w.n a ha),w.g,w.d⟩
def cD (G H:Hp)(fq:List adV):Hp:=λa=>if a∈fq then H a else G a
theorem du (h:a∈fq):cD G H fq a=H a:=by unfold cD;rw[uu h]
theorem nT (h:a∉fq):cD G H fq a=G a:=by unfold cD;rw[rf h]
theorem fm (h:∀a∈fq,G a=none):aj G (cD G H fq):=λb o e=>by
 grind [nT]
theorem gk (s:aj G H):aj (cD G H fq) H:=λb o e=>by
 by_cases q:b∈fq
 ·rw[du q]at e;exact e
 ·rw[nT q]at e;exact s b o e
theorem Step.dM {G H G' H':Hp}{fq:List adV}(e:Step G H G' H')(w:Nw H G' fq):Step G H (cD G' H' fq) H':=
 ⟨e.g.trans (fm w.g),e.h,gk e.s,λa h h'=>by
  by_cases q:a∈fq
  ·exact w.n a q
  ·rw[nT q]at h';exact e.n a h h'⟩
structure aS (ι:Type) where
 cx : ι->Cx
 P:agc
 w:agd
 K:Frag
 mg:Str->Option vn
 base:Heap
 room:Nat
 hP:∀i,(cx i).prog=P
 hw:∀i,(cx i).w=w
 hK:∀i,(cx i).K=K
 hm:∀i,(cx i).mg=mg
 hb:∀i,(cx i).base=base
 hr:∀i,dv room (cx i).A
 calm:∀i,(cx i).calm=true
abbrev En:=List (Option Tr)
def aX (K:Frag)(G:Hp)(ρ:En)(σ:St):Prop:=∀(j:Nat) (d:Dv),ρ[j]?=some (some (Tr.fz d))->∃v,σ[j]?=some (some v)/\Hv K G d v
theorem aX.mono {K:Frag}(e:aj G G')(r:aX K G ρ σ):aX K G' ρ σ:=λj d h=>by
 obtain⟨v,h1,h2⟩:=r j d h;exact⟨v,h1,h2.mono e⟩
section
def Ev (F:aS ι)(e:Expr)(ρ:En)(t:Tr):Prop:=∃τ:TE,(∀i,PE (F.cx i) e τ)/\∀σ G H Q,aj G H->aX F.K G ρ σ->Kv F.K G H t Q->τ σ H Q
def Et (F:aS ι)(e:Expr)(ρ:En)(b:Bool):Prop:=∃τ:TT,(∀i,PT (F.cx i) e τ)/\∀σ G H Q,aj G H->aX F.K G ρ σ->(∀G' H',Step G H G' H'->Q b H')->τ σ H Q
def jE (F:aS ι)(es:List Expr)(ρ:En)(ts:List Tr):Prop:=∃τ:TA,(∀i,PA (F.cx i) es τ)/\∀σ G H Q,aj G H->aX F.K G ρ σ ->
 (∀vs G' H' fq,Step G H G' H'->aV F.K G' H' ts vs fq->Nw H G' fq->Q vs H')->τ σ H Q
variable {F:aS ι}
theorem Ev.use (h:Ev F e ρ t):∃τ,(∀i,PE (F.cx i) e τ)/\∀σ G H (Q:VK),aj G H->aX F.K G ρ σ->(∀v G' H',Step G H G' H'->Hv F.K G' (er t) v->Q v H')->τ σ H Q:=by
 obtain⟨τ,p,q⟩:_:=h;refine⟨τ,p,λσ G H Q s r k=>q σ G H Q s r λv G' H' fq st o w=>?_⟩;exact k v (cD G' H' fq) H' (st.dM w) (o.hv (fm w.g) λa ha=>du ha)
theorem Ev.fz (h:Ev F e ρ t):Ev F e ρ (.fz (er t)):=by
 obtain⟨τ,p,q⟩:=h.use;exact⟨τ,p,λσ G H Q s r k=>q σ G H Q s r λv G' H' st hv=>k v G' H' [] st ⟨rfl,hv⟩ .nil⟩
theorem Ev.as (h:Ev F e ρ t)(ed:er t=d):Ev F e ρ (.fz d):=ed▸h.fz
theorem jE.use (h:jE F es ρ ts):∃τ,(∀i,PA (F.cx i) es τ)/\∀σ G H (Q:List V->Hp->Prop),aj G H->aX F.K G ρ σ->(∀vs G' H',Step G H G' H'->aH F.K G' (fh ts) vs->Q vs H')->τ σ H Q:=by
 obtain⟨τ,p,q⟩:_:=h;refine⟨τ,p,λσ G H Q s r k=>q σ G H Q s r λv G' H' fq st o w=>?_⟩;exact k v (cD G' H' fq) H' (st.dM w) (o.hv (fm w.g) λa ha=>du ha)
theorem ak:jE F [] ρ []:=⟨d8,λi=>cR,λσ G H Q s r k=>k [] G H [] (.refl s) ⟨rfl,rfl⟩ .nil⟩
theorem Nw.app (w1:Nw H G1 f1)(w2:Nw H1 G2 f2)(hh:aj H H1)(th:∀a∈f1,∃o,H1 a=some o)(hg:∀a,G1 a=none->G2 a≠none->H1 a=none):Nw H G2 (f1++f2):=
 ⟨λa ha=>(qr.mp ha).elim (w1.n a) λz=>hh.free (w2.n a z),λa ha=>(qr.mp ha).elim (λz=>by
   cases q:G2 a with
   |none=>rfl
   |some o=>
    obtain⟨u,hu⟩:=th a z;have:=hg a (w1.g a z) 'J'
    simp_all) (w2.g a),
  ze.mpr ⟨w1.d,w2.d,λa ha b hb e=>by
   subst e;obtain⟨u,hu⟩:=th a ha;rw[w2.n a hb]at hu;cases hu⟩⟩
theorem ag (ha:Ev F e ρ t)(hr:jE F es ρ ts)(hs:∀i,starEach (e::es) (F.cx i).env=(false,eval e (F.cx i).env)::starEach es (F.cx i).env:=by intro _;rfl):jE F (e::es) ρ (t::ts):=by
 obtain⟨τ,p,q⟩:_:=ha;obtain⟨bL,p',q'⟩:=hr;refine⟨dH τ bL,λi=>cm (p i) (p' i) (hs i),λσ G H Q s r k=>?_⟩;refine q σ G H _ s r λv G1 H1 f1 s1 o1 w1=>q' σ G1 H1 _ s1.s (r.mono s1.g) λvs G2 H2 f2 s2 o2 w2=>?_
 exact k (v::vs) G2 H2 (f1++f2) (s1.trans s2) ⟨v,vs,f1,f2,rfl,rfl,o1.mono s2.g s2.h,o2⟩ (w1.app w2 s1.h (λa ha=>o1.there a ha) s2.n)
end
end L2
namespace L2
open PySem PySem.Spec PyProof.Rows
abbrev di (n:Int):Dv:=.fl (.int n)
abbrev db (b:Bool):Dv:=.fl (.bl b)
abbrev dn:Dv:=.fl .aW
abbrev ds (x:Str):Dv:=.fl (.str x)
abbrev dis (ns:LI):Dv:=.lst (ns.map di)
abbrev ti (n:Int):Tr:=.fz (di n)
abbrev tb (b:Bool):Tr:=.fz (db b)
abbrev tn:Tr:=.fz dn
abbrev tx (x:Str):Tr:=.fz (ds x)
theorem Kv.sc {K:Frag}(k:Kv K G H (.fz (.fl v)) Q)(s:aj G H)(f:iU v=true):Q v H:=k v G H [] (.refl s) ⟨rfl,rfl,f⟩ .nil
theorem Kv.dat {K:Frag}(k:Kv K G H (.fz d) Q)(s:aj G H)(h:Hv K G d v):Q v H:=k v G H [] (.refl s) ⟨rfl,h⟩ .nil
theorem Kv.lst {K:Frag}{G H:Hp}{ts:List Tr}{vs:List V}{Q:VK}(k:Kv K G H (.ow ts) Q)(s:aj G H)(h:aV K G H ts vs []){p:adV}(hp:H p=none):Q (.ref p) (upd H p (.lst vs)):=
 k (.ref p) G _ [p] (.jR s hp) ⟨p,vs,[],rfl,bQ,h.mono (aj.refl _) (aj.new hp),rfl⟩ ⟨λa ha=>'J',λa ha=>by rw[BB.mp ha];exact s.free hp,'Y'⟩
theorem aO {K:Frag}(h:Hv K G (.fl v) x):x=v:=h.1
section
variable {F:aS ι}{ρ:En}{pos:Pos}
theorem ae (j:Nat)(h : ρ[j]?=some (some (.fz d)))(hN:∀i,(F.cx i).N[j]?=some x:=by intro _;rfl)(hv:∀i,iF (F.cx i).env.scope x:=by intro _;first|exact Or.inl rfl|exact Or.inr (Or.inl rfl)|exact Or.inr (Or.inr rfl))(hd:(x==("__debug__":Str))=false:=by decide)(hc:(x==("__classdict__":Str))=false:=by decide):Ev F (.Name x pos) ρ (.fz d):=
 ⟨dC j,λi=>kj (hN i) (hv i) hd hc,λσ G H Q s r k=>by
  obtain⟨v,h1,h2⟩:=r j d h;exact⟨v,h1,k.dat s h2⟩⟩
theorem ai:Ev F (.Constant (.int n) j pos) ρ (ti n):=⟨_,λi=>MA,λσ G H Q s r k=>k.sc s rfl⟩
theorem vg:Ev F (.Constant (.bool n) j pos) ρ (tb n):=⟨_,λi=>abV,λσ G H Q s r k=>k.sc s rfl⟩
theorem MT:Ev F (.Constant .none j pos) ρ tn:=⟨_,λi=>MB,λσ G H Q s r k=>k.sc s rfl⟩
theorem yN:Ev F (.Constant (.str n) j pos) ρ (tx n):=⟨_,λi=>MC,λσ G H Q s r k=>k.sc s rfl⟩
theorem C7 (hm:F.mg x=some u)(r:RelV v u)(f:iU v=true)(hg:∀i,Gl (F.cx i) x:=by intro _;rfl)(hd:(x==("__debug__":Str))=false:=by decide):Ev F (.Name x pos) ρ (.fz (.fl v)):=
 ⟨tC v,λi=>YV (hg i) ((F.hm i).symm▸hm) r hd,λσ G H Q s _ k=>k.sc s f⟩
theorem oe (ho:∀i,cN (F.cx i) (binaryOp op) r)(ha:Ev F a ρ ta)(hb:Ev F b ρ tb')(h:∀G H x y Q,aj G H->Hv F.K G (er ta) x->Hv F.K G (er tb') y->Kv F.K G H t Q->r x y H Q):Ev F (.BinOp a op b pos) ρ t:=by
 obtain⟨τ,p,q⟩:=ha.use;obtain⟨bL,p',q'⟩:=hb.use;refine⟨iZ r τ bL,λi=>sQ (ho i) (p i) (p' i),λσ G H Q s rr k=>?_⟩;refine q σ G H _ s rr λx G1 H1 s1 hx=>q' σ G1 H1 _ s1.s (rr.mono s1.g) λy G2 H2 s2 hy=>?_
 exact h G2 H2 x y Q s2.s (hx.mono s2.g) hy (k.step (s1.trans s2))
theorem fA (ha:Ev F a ρ (ti i))(hb:Ev F b ρ (ti j)):Ev F (.BinOp a .Add b pos) ρ (ti (i+j)):=oe (λ_=>MF) ha hb λG H x y Q s hx hy k=>⟨i,j,aO hx,aO hy,k.sc s rfl⟩
theorem DU (ha:Ev F a ρ (ti i))(hb:Ev F b ρ (ti j)):Ev F (.BinOp a .Sub b pos) ρ (ti (i-j)):=oe (λ_=>yK) ha hb λG H x y Q s hx hy k=>⟨i,j,aO hx,aO hy,k.sc s rfl⟩
theorem km (ha:Ev F a ρ (ti i))(hb:Ev F b ρ (ti j))(hc:OY i j):Ev F (.BinOp a .Mult b pos) ρ (ti (i*j)):=oe (λ_=>Y5) ha hb λG H x y Q s hx hy k=>⟨i,j,aO hx,aO hy,hc,k.sc s rfl⟩
theorem iu (ha:Ev F a ρ (ti i))(hb:Ev F b ρ (ti j))(hc:vf i j):Ev F (.BinOp a .FloorDiv b pos) ρ (ti (i/j)):=oe (λ_=>XM) ha hb λG H x y Q s hx hy k=>⟨i,j,aO hx,aO hy,hc,k.sc s rfl⟩
theorem dQ (ha:Ev F a ρ (ti i))(hb:Ev F b ρ (ti j))(hc : 0<j):Ev F (.BinOp a .Mod b pos) ρ (ti (i%j)):=oe (λ_=>aaQ) ha hb λG H x y Q s hx hy k=>⟨i,j,aO hx,aO hy,hc,k.sc s rfl⟩
theorem aa4 (ha:Ev F a ρ (ti i))(hb:Ev F b ρ (ti j))(hc:P5 i j):Ev F (.BinOp a .Pow b pos) ρ (ti (i^j.toNat)):=oe (λ_=>aaR) ha hb λG H x y Q s hx hy k=>⟨i,j,aO hx,aO hy,hc,k.sc s rfl⟩
theorem mX (ha:Ev F a ρ (ti i)):Ev F (.UnaryOp .USub a pos) ρ (ti (-i)):=by
 obtain⟨τ,p,q⟩:_:=ha.use;exact⟨_,λi=>abW aaS (p i),λσ G H Q s rr k=>q σ G H _ s rr λx G1 H1 s1 hx=>⟨i,aO hx,(k.step s1).sc s1.s rfl⟩⟩
theorem sy (ha:Ev F a ρ ta)(hb:Ev F b ρ tb')(ea:er ta=.lst xs)(eb:er tb'=.lst ys)(hz:xs.length+ys.length<=sizeLine):Ev F (.BinOp a .Add b pos) ρ (.ow ((xs++ys).map .fz)):=
 oe (λi=>F.hK i▸Lb) ha hb λG H x y Q s hx hy k=>by
  rw[ea]at hx;rw[eb]at hy;obtain⟨l,vs,rfl,h1,h2⟩:=hx;obtain⟨l',ws,rfl,h3,h4⟩:=hy;refine⟨l,l',vs,ws,rfl,rfl,s.seq h1,s.seq h3,by rw[<- h2.length,<- h4.length];exact hz,λp hp=>?_⟩;refine k.lst s ?_ hp;rw[BN];exact h2.jD.append h4.jD
theorem uQ {c:Bool}(ho:∀i,cN (F.cx i) (compareOp op) r)(ha:Ev F a ρ ta)(hb:Ev F b ρ tb')(h:∀G H x y (Q:VK),aj G H->Hv F.K G (er ta) x->Hv F.K G (er tb') y->Q (.bl c) H->r x y H Q)(hm:behindInMarks op b=false):Ev F (.Compare a [op] [b] pos) ρ (tb c):=by
 obtain⟨τ,p,q⟩:_:=ha.use;obtain⟨bL,p',q'⟩:_:=hb.use;refine⟨iZ r τ bL,λi=>YX (ho i) (p i) (p' i) hm,λσ G H Q s rr k=>?_⟩;refine q σ G H _ s rr λx G1 H1 s1 hx=>q' σ G1 H1 _ s1.s (rr.mono s1.g) λy G2 H2 s2 hy=>?_
 exact h G2 H2 x y Q s2.s (hx.mono s2.g) hy ((k.step (s1.trans s2)).sc s2.s rfl)
theorem jh {c:Bool}(ho:∀i,cN (F.cx i) (compareOp op) r)(ha:Ev F a ρ ta)(hb:Ev F b ρ tb')(h:∀G H x y (Q:VK),aj G H->Hv F.K G (er ta) x->Hv F.K G (er tb') y->Q (.bl c) H->r x y H Q)(hm:behindInMarks op b=false):Et F (.Compare a [op] [b] pos) ρ c:=by
 obtain⟨τ,p,q⟩:_:=ha.use;obtain⟨bL,p',q'⟩:=hb.use;refine⟨EK (iZ r τ bL),λi=>C3 (ho i) (p i) (p' i) hm,λσ G H Q s rr k=>?_⟩;refine q σ G H _ s rr λx G1 H1 s1 hx=>q' σ G1 H1 _ s1.s (rr.mono s1.g) λy G2 H2 s2 hy=>?_
 exact h G2 H2 x y _ s2.s (hx.mono s2.g) hy ⟨c,rfl,k G2 H2 (s1.trans s2)⟩
theorem pQ (ha:Ev F a ρ (ti i))(hb:Ev F b ρ (ti j)):Et F (.Compare a [.Lt] [b] pos) ρ (decide (i<j)):=jh (λ_=>OV) ha hb (λG H x y Q s hx hy k=>⟨i,j,aO hx,aO hy,k⟩) (fN _)
theorem kx (ha:Ev F a ρ (ti i))(hb:Ev F b ρ (ti j)):Et F (.Compare a [.Gt] [b] pos) ρ (decide (j<i)):=jh (λ_=>EJ) ha hb (λG H x y Q s hx hy k=>⟨i,j,aO hx,aO hy,k⟩) (fN _)
theorem gX (ha:Ev F a ρ (ti i))(hb:Ev F b ρ (ti j)):Et F (.Compare a [.Eq] [b] pos) ρ (decide (i=j)):=jh (λ_=>zp) ha hb (λG H x y Q s hx hy k=>by
 rw[aO hx,aO hy];exact⟨rfl,'J'⟩) (fN _)
theorem sS (ha:Ev F a ρ (ti i))(hb:Ev F b ρ (ti j)):Et F (.Compare a [.NotEq] [b] pos) ρ (!decide (i=j)):=jh (λ_=>OU) ha hb (λG H x y Q s hx hy k=>by
 rw[aO hx,aO hy];exact⟨rfl,'J'⟩) (fN _)
theorem EX (ha:Ev F a ρ (ti i))(hb:Ev F b ρ (ti j)):Ev F (.Compare a [.Lt] [b] pos) ρ (tb (decide (i<j))):=uQ (λ_=>OV) ha hb (λG H x y Q s hx hy k=>⟨i,j,aO hx,aO hy,k⟩) (fN _)
theorem ab4 (ha:Ev F a ρ (ti i))(hb:Ev F b ρ (ti j)):Ev F (.Compare a [.Gt] [b] pos) ρ (tb (decide (j<i))):=uQ (λ_=>EJ) ha hb (λG H x y Q s hx hy k=>⟨i,j,aO hx,aO hy,k⟩) (fN _)
theorem ab5 (ha:Ev F a ρ (ti i))(hb:Ev F b ρ (ti j)):Ev F (.Compare a [.GtE] [b] pos) ρ (tb (decide (j<=i))):=uQ (λ_=>abX) ha hb (λG H x y Q s hx hy k=>⟨i,j,aO hx,aO hy,k⟩) (fN _)
theorem ab6 (ha:Ev F a ρ (ti i))(hb:Ev F b ρ (ti j)):Ev F (.Compare a [.Eq] [b] pos) ρ (tb (decide (i=j))):=uQ (λ_=>zp) ha hb (λG H x y Q s hx hy k=>by
 rw[aO hx,aO hy];exact⟨rfl,'J'⟩) (fN _)
def uR (d e:Dv):Prop:=(∃xs ys,d=.lst xs/\e=.lst ys)\/∃xs ys,d=.tup xs/\e=.tup ys
theorem yO (ha:Ev F a ρ ta)(hb:Ev F b ρ tb')(hk:uR (er ta) (er tb'))(hd:de (er ta)<=50):Et F (.Compare a [.Eq] [b] pos) ρ (bX (er ta) (er tb')):=
 jh (λi=>F.hK i▸DR (F.hr i).units) ha hb (λG H x y Q s hx hy k=>⟨_,_,hk,hx.mono s,hy.mono s,hd,k⟩) (fN _)
theorem kn (ha:Ev F a ρ ta)(hb:Ev F b ρ tb')(hk:uR (er ta) (er tb'))(hd:de (er ta)<=50):Et F (.Compare a [.NotEq] [b] pos) ρ (!bX (er ta) (er tb')):=
 jh (λi=>F.hK i▸MQ (F.hr i).units) ha hb (λG H x y Q s hx hy k=>⟨_,_,hk,hx.mono s,hy.mono s,hd,k⟩) (fN _)
theorem yP (ha:Ev F a ρ ta)(hb:Ev F b ρ tb')(hk:uR (er ta) (er tb'))(hd:de (er ta)<=50):Ev F (.Compare a [.Eq] [b] pos) ρ (tb (bX (er ta) (er tb'))):=
 uQ (λi=>F.hK i▸DR (F.hr i).units) ha hb (λG H x y Q s hx hy k=>⟨_,_,hk,hx.mono s,hy.mono s,hd,k⟩) (fN _)
theorem mH {K:Frag}:∀{ns:LI} {vs:List V},aH K G (ns.map di) vs->vs=ns.map V.int
 |[],_,h=>h
 |_::_,_,z9=>by obtain⟨x,r,h1,h2,h3⟩:=z9;subst h1;rw[aO h2,mH h3];rfl
theorem j9 {K:Frag}:∀{ns:LI},aH K G (ns.map di) (ns.map V.int)
 |[] => rfl
 |_::_=>⟨_,_,rfl,⟨rfl,rfl⟩,j9⟩
theorem J5 (n:Int):∀ns:LI,Af (.int n) (ns.map V.int)=ns.any λm=>m==n
 |[] => rfl
 |m::ms=>by
  show(jV (.int m) (.int n)||Af (.int n) (ms.map V.int))=_;rw[J5 n ms];rfl
theorem W3 (ns:LI):(ns.map V.int).all iU=true:=by rw[List.all_map];exact aee.mpr λ_ _=>rfl
theorem Vl (n:Int)(ns:LI):(ns.any λm=>m==n)=ns.contains n:=by
 grind
theorem MU (eb:er tb'=dis ns)(s:aj G H)(hx:Hv F.K G (er (ti n)) x)(hy:Hv F.K G (er tb') y)(k:Q (.bl (if neg then !ns.contains n else ns.contains n)) H):GH F.K neg x y H Q:=by
 rw[eb]at hy;obtain⟨l,vs,rfl,h1,h2⟩:=hy;have:=mH h2;subst this;rw[aO hx];refine⟨l,_,rfl,.inl (s.seq h1),rfl,W3 ns,?_⟩;rw[J5,Vl];exact k
theorem EY (ha:Ev F a ρ (ti n))(hb:Ev F b ρ tb')(eb:er tb'=dis ns)(hm:behindInMarks .In b=false):Et F (.Compare a [.In] [b] pos) ρ (ns.contains n):=
 jh (λi=>F.hK i▸WX) ha hb (λG H x y Q s hx hy k=>MU eb s hx hy k) hm
theorem nU (ha:Ev F a ρ (ti n))(hb:Ev F b ρ tb')(eb:er tb'=dis ns)(hm:behindInMarks .NotIn b=false):Et F (.Compare a [.NotIn] [b] pos) ρ (!ns.contains n):=
 jh (λi=>F.hK i▸Vh) ha hb (λG H x y Q s hx hy k=>MU eb s hx hy k) hm
theorem fO {c:Bool}(h:Ev F e ρ (tb c))(he:∀i whole,isTrue e (F.cx i).env whole=(do let v<-whole;standAt e.pos;holding [v] (truthy v)):=by intro _ _;rfl):Et F e ρ c:=by
 obtain⟨τ,p,q⟩:=h;exact⟨tB τ,λi=>aaJ (p i) (he i),λσ G H Q s r k=>q σ G H _ s r λv G' H' fq st o w=>⟨c,aO o.2,k G' H' st⟩⟩
def Ew (F:aS ι)(e:Expr)(ρ:En)(b:Bool):Prop:=∃τ:TT,(∀i,PW (F.cx i) e τ)/\∀σ G H Q,aj G H->aX F.K G ρ σ->(∀G' H',Step G H G' H'->Q b H')->τ σ H Q
theorem Ew.et (h:Ew F e ρ p):Et F e ρ p:=by obtain⟨τ,a,b⟩:=h;exact⟨τ,λi=>(a i).pt,b⟩
theorem CA:PW X e (λ_ _ _=>False):=λ_ _ _ _ _ _ _ h=>h.elim
theorem pD (h:Et F a ρ p):Ew F (.BoolOp .And [a] pos) ρ p:=by obtain⟨τ,x,y⟩:_:=h;exact⟨τ,λi=>KJ (x i),y⟩
theorem ko (h:Et F a ρ p):Ew F (.BoolOp .Or [a] pos) ρ p:=let ⟨τ,x,y⟩:=h;⟨τ,λi=>aaK (x i),y⟩
theorem pH {rest:List Expr}(h:Et F a ρ p)(h2:p=true->Ew F (.BoolOp .And (b::rest) pos) ρ q):Ew F (.BoolOp .And (a::b::rest) pos) ρ (p&&q):=by
 obtain⟨τ,x,y⟩:_:=h;cases p with
 |false=>exact⟨vD τ _,λi=>yH (x i) CA,λσ G H Q s r k=>y σ G H _ s r λG' H' st=>lO (k G' H' st)⟩
 |true=>
  obtain⟨bL,x',y'⟩:=h2 rfl;exact⟨vD τ bL,λi=>yH (x i) (x' i),λσ G H Q s r k=>y σ G H _ s r λG1 H1 s1=>lQ (y' σ G1 H1 _ s1.s (r.mono s1.g) λG2 H2 s2=>k G2 H2 (s1.trans s2))⟩
theorem gY {rest:List Expr}(h:Et F a ρ p)(h2:p=false->Ew F (.BoolOp .Or (b::rest) pos) ρ q):Ew F (.BoolOp .Or (a::b::rest) pos) ρ (p||q):=by
 obtain⟨τ,x,y⟩:_:=h;cases p with
 |true=>exact⟨Gz τ _,λi=>OM (x i) CA,λσ G H Q s r k=>y σ G H _ s r λG' H' st=>lQ (k G' H' st)⟩
 |false=>
  obtain⟨bL,x',y'⟩:=h2 rfl;exact⟨Gz τ bL,λi=>OM (x i) (x' i),λσ G H Q s r k=>y σ G H _ s r λG1 H1 s1=>lO (y' σ G1 H1 _ s1.s (r.mono s1.g) λG2 H2 s2=>k G2 H2 (s1.trans s2))⟩
theorem ji (h:Et F a ρ p):Et F (.UnaryOp .Not a pos) ρ (!p):=by
 obtain⟨τ,x,y⟩:=h;exact⟨PY τ,λi=>aaL (x i),λσ G H Q s r k=>y σ G H _ s r k⟩
theorem xZ:PE X e (λ_ _ _=>False):=λ_ _ _ _ _ _ h=>h.elim
theorem sC (h:Ev F a ρ t):Ev F (.BoolOp op [a] pos) ρ t:=by obtain⟨τ,x,y⟩:_:=h;exact⟨τ,λi=>aaM (x i),y⟩
theorem yQ {rest:List Expr}(h:Ev F a ρ (tb p))(h2:p=true->Ev F (.BoolOp .And (b::rest) pos) ρ (tb q)):Ev F (.BoolOp .And (a::b::rest) pos) ρ (tb (p&&q)):=by
 obtain⟨τ,x,y⟩:_:=h.use;cases p with
 |false=>exact⟨EH τ _,λi=>MD (x i) xZ,λσ G H Q s r k=>y σ G H _ s r λv G' H' st hv=>⟨false,aO hv,lO ((k.step st).sc st.s rfl)⟩⟩
 |true=>
  obtain⟨bL,x',y'⟩:=h2 rfl;exact⟨EH τ bL,λi=>MD (x i) (x' i),λσ G H Q s r k=>y σ G H _ s r λv G1 H1 s1 hv=>⟨true,aO hv,lQ (y' σ G1 H1 _ s1.s (r.mono s1.g) (k.step s1))⟩⟩
theorem O3 {rest:List Expr}(h:Ev F a ρ (tb p))(h2:p=false->Ev F (.BoolOp .Or (b::rest) pos) ρ (tb q)):Ev F (.BoolOp .Or (a::b::rest) pos) ρ (tb (p||q)):=by
 obtain⟨τ,x,y⟩:_:=h.use;cases p with
 |true=>exact⟨FK τ _,λi=>OQ (x i) xZ,λσ G H Q s r k=>y σ G H _ s r λv G' H' st hv=>⟨true,aO hv,lQ ((k.step st).sc st.s rfl)⟩⟩
 |false=>
  obtain⟨bL,x',y'⟩:=h2 rfl;exact⟨FK τ bL,λi=>OQ (x i) (x' i),λσ G H Q s r k=>y σ G H _ s r λv G1 H1 s1 hv=>⟨false,aO hv,lO (y' σ G1 H1 _ s1.s (r.mono s1.g) (k.step s1))⟩⟩
theorem MV (h:Ev F a ρ (tb p)):Ev F (.UnaryOp .Not a pos) ρ (tb (!p)):=by
 obtain⟨τ,x,y⟩:_:=h.use;exact⟨OO τ,λi=>aaN (x i),λσ G H Q s r k=>y σ G H _ s r λv G' H' st hv=>⟨p,aO hv,(k.step st).sc st.s rfl⟩⟩
theorem cf (h:jE F es ρ ts)(hz:ts.length<=sizeLine):Ev F (.List es pos) ρ (.ow ts):=by
 obtain⟨τ,x,y⟩:_:=h;refine⟨P8 τ,λi=>DL (x i),λσ G H Q s r k=>y σ G H _ s r λvs G1 H1 fq s1 o w=>⟨by rw[<- o.length];exact hz,λp hp=>?_⟩⟩;have np:p∉fq:=λz=>by
  obtain⟨u,hu⟩:=o.there p z
  simp_all
 exact k (.ref p) G1 _ (p::fq) (s1.trans (.jR s1.s hp)) ⟨p,vs,fq,rfl,bQ,o.mono (aj.refl _) (aj.new hp),rfl⟩
  ⟨λa ha=>(ff.mp ha).elim (λz=>by rw[z];exact s1.h.free hp) (w.n a),λa ha=>(ff.mp ha).elim (λz=>by rw[z];exact s1.s.free hp) (w.g a),AE.mpr ⟨np,w.d⟩⟩
theorem pI (h:jE F es ρ ts)(hz:ts.length<=sizeLine):Ev F (.Tuple es x1 pos) ρ (.tp ts):=by
 obtain⟨τ,x,y⟩:_:=h;refine⟨FT τ,λi=>DK (x i),λσ G H Q s r k=>y σ G H _ s r λvs G1 H1 fq s1 o w=>⟨by rw[<- o.length];exact hz,λp hp=>?_⟩⟩;have np:p∉fq:=λz=>by
  obtain⟨u,hu⟩:=o.there p z
  simp_all
 exact k (.ref p) G1 _ (p::fq) (s1.trans (.jR s1.s hp)) ⟨p,vs,fq,rfl,bQ,o.mono (aj.refl _) (aj.new hp),rfl⟩
  ⟨λa ha=>(ff.mp ha).elim (λz=>by rw[z];exact s1.h.free hp) (w.n a),λa ha=>(ff.mp ha).elim (λz=>by rw[z];exact s1.s.free hp) (w.g a),AE.mpr ⟨np,w.d⟩⟩
theorem kg (h:jE F es ρ ts)(ed:fh ts=dd)(hz:ts.length<=sizeLine):Ev F (.Tuple es x1 pos) ρ (.fz (.tup dd)):=ed▸(pI h hz).fz
theorem aH.get {K:Frag}{G:Hp}:∀{ds:List Dv} {vs:List V} {j:Nat} {d:Dv},aH K G ds vs->ds[j]?=some d->∃v,vs[j]?=some v/\Hv K G d v
 |_::_,_,0,_,z9,h=>by obtain⟨x,r,h1,h2,h3⟩:=z9;simp_all
 |_::_,_,j+1,d,z9,h=>by
  obtain⟨x,r,h1,h2,h3⟩:=z9;obtain⟨v,q1,q2⟩:=aH.get h3 h
  simp_all
theorem aH.at {K:Frag}{ds:List Dv}(h:aH K G ds vs)(hk:aF ds k=some d):∃v,aF vs k=some v/\Hv K G d v:=by
 unfold aF at hk ⊢;rw[<- h.length];cases q:dW ds.length k with
 |none=>rw[q]at hk;cases hk
 |some j=>rw[q]at hk;exact h.get hk
theorem bj (ha:Ev F a ρ ta)(hb:Ev F b ρ (ti k))(ea:er ta=.lst xs)(hk:aF xs k=some d)(hs:uA b:=by exact λ_ _=>rfl):Ev F (.Subscript a b pos) ρ (.fz d):=by
 obtain⟨τ,p,q⟩:_:=ha.use;obtain⟨bL,p',q'⟩:=hb.use;refine⟨iZ (vH F.K) τ bL,λi=>ku (J4 (F.hK i)) (p i) (p' i) hs,λσ G H Q s rr k=>?_⟩;refine q σ G H _ s rr λx G1 H1 s1 hx=>q' σ G1 H1 _ s1.s (rr.mono s1.g) λy G2 H2 s2 hy=>?_
 rw[ea]at hx;obtain⟨l,vs,rfl,h1,h2⟩:=hx;obtain⟨v,h3,h4⟩:=h2.at hk;exact⟨l,vs,_,v,rfl,aO hy,(s2.g.trans s2.s).seq h1,h3,(k.step (s1.trans s2)).dat s2.s (h4.mono s2.g)⟩
theorem bF (ha:Ev F a ρ ta)(hb:Ev F b ρ (ti k))(ea:er ta=.tup xs)(hk:aF xs k=some d)(hs:uA b:=by exact λ_ _=>rfl):Ev F (.Subscript a b pos) ρ (.fz d):=by
 obtain⟨τ,p,q⟩:_:=ha.use;obtain⟨bL,p',q'⟩:=hb.use;refine⟨iZ (FU F.K) τ bL,λi=>ku (Y7 (F.hK i)) (p i) (p' i) hs,λσ G H Q s rr k=>?_⟩;refine q σ G H _ s rr λx G1 H1 s1 hx=>q' σ G1 H1 _ s1.s (rr.mono s1.g) λy G2 H2 s2 hy=>?_
 rw[ea]at hx;obtain⟨l,vs,rfl,h1,h2⟩:=hx;obtain⟨v,h3,h4⟩:=h2.at hk;exact⟨l,vs,_,v,rfl,aO hy,(s2.g.trans s2.s).tup h1,h3,(k.step (s1.trans s2)).dat s2.s (h4.mono s2.g)⟩
def cutD {α:Type}(xs:List α)(lo hi:Option Int):List α:=(xs.drop (HT.fX xs.length 0 lo)).take (HT.fX xs.length xs.length hi-HT.fX xs.length 0 lo)
theorem aH.drop {K:Frag}:∀{ds:List Dv} {vs:List V} (n:Nat),aH K G ds vs->aH K G (ds.drop n) (vs.drop n)
 |ds,vs,0,h=>h
 |[],_,n+1,h=>by rw[h];exact rfl
 |_::_,_,n+1,z9=>by obtain⟨x,r,h1,h2,h3⟩:=z9;subst h1;exact aH.drop n h3
theorem aH.take {K:Frag}:∀{ds:List Dv} {vs:List V} (n:Nat),aH K G ds vs->aH K G (ds.take n) (vs.take n)
 |ds,vs,0,h=>'X'
 |[],_,n+1,h=>by rw[h];exact rfl
 |_::_,_,n+1,⟨x,r,h1,h2,h3⟩=>by subst h1;exact⟨x,r.take n,rfl,h2,aH.take n h3⟩
theorem aH.cut {K:Frag}{ds:List Dv}(h:aH K G ds vs)(lo hi:Option Int):aH K G (cutD ds lo hi) (sY vs lo hi):=by
 unfold cutD sY;rw[h.length];exact(h.drop _).take _
def Eo (F:aS ι)(e:Option Expr)(ρ:En)(o:Option Int):Prop:=∃τ:TO,(∀i,PO (F.cx i) e τ)/\∀σ G H Q,aj G H->aX F.K G ρ σ->(∀G' H',Step G H G' H'->Q o H')->τ σ H Q
theorem C8:Eo F none ρ none:=⟨KQ,λ_=>KR,λσ G H Q s r k=>k G H (.refl s)⟩
theorem uD (h:Ev F e ρ (ti n)):Eo F (some e) ρ (some n):=by
 obtain⟨τ,x,y⟩:=h.use;exact⟨OW τ,λi=>KS (x i),λσ G H Q s r k=>y σ G H _ s r λv G' H' st hv=>⟨n,aO hv,k G' H' st⟩⟩
theorem x9 {lo:Option Expr}(ha:Ev F a ρ ta)(ea:er ta=.lst xs)(hl:Eo F lo ρ l)(hu:Eo F hi ρ u):Ev F (.Subscript a (.Slice lo hi none p2) pos) ρ (.ow ((cutD xs l u).map .fz)):=by
 obtain⟨τ,p,q⟩:_:=ha.use;obtain⟨τ1,p1,q1⟩:_:=hl;obtain⟨τ2,Q4,q2⟩:=hu;refine⟨QY (Qa F.K) τ τ1 τ2,λi=>JU (F.hK i▸KW) (p i) (p1 i) (Q4 i),λσ G H Q s rr k=>?_⟩;refine q σ G H _ s rr λx G1 H1 s1 hx=>q1 σ G1 H1 _ s1.s (rr.mono s1.g) λG2 H2 s2=>q2 σ G2 H2 _ s2.s (rr.mono (s1.trans s2).g) λG3 H3 s3=>?_
 rw[ea]at hx;obtain⟨b,vs,rfl,h1,h2⟩:=hx;have st:=s2.trans s3;exact⟨b,vs,rfl,(st.g.trans st.s).seq h1,λp hp=>(k.step (s1.trans st)).lst st.s ((h2.mono st.g).cut l u).jD hp⟩
theorem rK {id:String}(hc:∀i,eY (F.cx i) (.builtin id) r)(hm:F.mg x=none)(hv:bootBuiltins x=some (.builtin id))(ha:jE F (e::es) ρ ts)(h:∀G H xs Q,aj G H->aH F.K G (fh ts) xs->Kv F.K G H t Q->r xs H Q){p':Pos}(hg:∀i,Gl (F.cx i) x:=by intro _;rfl)(hn:x ≠ "__name__":=by decide)(eE:(x==("__debug__":Str))=false:=by decide)(he:∀i,starEach (e::es) (F.cx i).env=(false,eval e (F.cx i).env)::starEach es (F.cx i).env:=by intro _;rfl)(cJ:∀i,(backTo pos (starEach es (F.cx i).env)).any (·.1)=false:=by intro _;rfl):Ev F (.Call (.Name x p') (e::es) [] pos) ρ t:=by
 obtain⟨τ,y,z⟩:_:=ha.use;refine⟨lZ r τ,λi=>um (hc i) (hg i) ((F.hm i).symm▸hm) hv (y i) hn eE (he i) (cJ i),λσ G H Q s rr k=>z σ G H _ s rr λvs G1 H1 s1 hx=>?_⟩;exact h G1 H1 vs Q s1.s hx (k.step s1)
theorem J6 (hc:∀i,eY (F.cx i) (.type T) r)(hm:F.mg x=none)(hv:bootBuiltins x=some (.type T))(ha:jE F (e::es) ρ ts)(h:∀G H xs Q,aj G H->aH F.K G (fh ts) xs->Kv F.K G H t Q->r xs H Q){p':Pos}(hg:∀i,Gl (F.cx i) x:=by intro _;rfl)(hn:x ≠ "__name__":=by decide)(eE:(x==("__debug__":Str))=false:=by decide)(he:∀i,starEach (e::es) (F.cx i).env=(false,eval e (F.cx i).env)::starEach es (F.cx i).env:=by intro _;rfl)(cJ:∀i,(backTo pos (starEach es (F.cx i).env)).any (·.1)=false:=by intro _;rfl):Ev F (.Call (.Name x p') (e::es) [] pos) ρ t:=by
 obtain⟨τ,y,z⟩:_:=ha.use;refine⟨lZ r τ,λi=>xS (hc i) (hg i) ((F.hm i).symm▸hm) hv (y i) hn eE (he i) (cJ i),λσ G H Q s rr k=>z σ G H _ s rr λvs G1 H1 s1 hx=>?_⟩;exact h G1 H1 vs Q s1.s hx (k.step s1)
theorem iA {K:Frag}(h:aH K G [d] xs):∃x,xs=[x]/\Hv K G d x:=by
 obtain⟨x,r,h1,h2,h3⟩:_:=h;exact⟨x,by rw[h1,h3],h2⟩
theorem p8 {K:Frag}(h:aH K G [d,d'] xs):∃x y,xs=[x,y]/\Hv K G d x/\Hv K G d' y:=by
 obtain⟨x,r,h1,h2,h3⟩:_:=h;obtain⟨y,rfl,h4⟩:_:=iA h3
 grind
theorem bY (hm:F.mg "len"=none)(ha:Ev F e ρ ta)(ea:er ta=.lst xs\/er ta=.tup xs){p':Pos}(hg:∀i,Gl (F.cx i) "len":=by intro _;rfl)(hs:∀i,starEach [e] (F.cx i).env=[(false,eval e (F.cx i).env)]:=by intro _;rfl):Ev F (.Call (.Name "len" p') [e] [] pos) ρ (ti xs.length):=
 rK (λi=>W2 (F.hK i)) hm MR (ag ha ak hs) (λG H vs Q s hx k=>by
  obtain⟨x,rfl,dE⟩:=iA hx
  replace hx:=dE
  obtain ea|ea:=ea
  ·rw[ea]at hx;obtain⟨l,ys,rfl,h1,h2⟩:=hx;exact⟨l,ys,rfl,.inl (s.seq h1),by rw[<- h2.length];exact k.sc s rfl⟩
  ·rw[ea]at hx;obtain⟨l,ys,rfl,h1,h2⟩:=hx;exact⟨l,ys,rfl,.inr (s.tup h1),by rw[<- h2.length];exact k.sc s rfl⟩) hg 'Q' 'Q' hs (λ_=>rfl)
theorem mM (hm:F.mg "list"=none)(ha:Ev F e ρ ta)(ea:er ta=.lst xs\/er ta=.tup xs){p':Pos}(hg:∀i,Gl (F.cx i) "list":=by intro _;rfl)(hs:∀i,starEach [e] (F.cx i).env=[(false,eval e (F.cx i).env)]:=by intro _;rfl):Ev F (.Call (.Name "list" p') [e] [] pos) ρ (.ow (xs.map .fz)):=
 J6 (λi=>F.hK i▸Vj) hm rP (ag ha ak hs) (λG H vs Q s hx k=>by
  obtain⟨x,rfl,dE⟩:=iA hx
  replace hx:=dE
  obtain ea|ea:=ea
  ·rw[ea]at hx;obtain⟨l,ys,rfl,h1,h2⟩:=hx;exact⟨l,ys,rfl,.inl (s.seq h1),λp hp=>k.lst s h2.jD hp⟩
  ·rw[ea]at hx;obtain⟨l,ys,rfl,h1,h2⟩:=hx;exact⟨l,ys,rfl,.inr (s.tup h1),λp hp=>k.lst s h2.jD hp⟩) hg 'Q' 'Q' hs (λ_=>rfl)
theorem MX (hm:F.mg "sum"=none)(ha:Ev F e ρ ta)(ea:er ta=dis ns){p':Pos}(hg:∀i,Gl (F.cx i) "sum":=by intro _;rfl)(hs:∀i,starEach [e] (F.cx i).env=[(false,eval e (F.cx i).env)]:=by intro _;rfl):Ev F (.Call (.Name "sum" p') [e] [] pos) ρ (ti ns.sum):=
 rK (λi=>F.hK i▸JX (F.calm i)) hm MS (ag ha ak hs) (λG H vs Q s hx k=>by
  obtain⟨x,rfl,dE⟩:=iA hx
  replace hx:=dE
  rw[ea]at hx;obtain⟨l,ys,rfl,h1,h2⟩:=hx;have:=mH h2;subst this;exact⟨l,ns,rfl,s.seq h1,k.sc s rfl⟩) hg 'Q' 'Q' hs (λ_=>rfl)
theorem DV (hm:F.mg "abs"=none)(ha:Ev F e ρ (ti n)){p':Pos}(hg:∀i,Gl (F.cx i) "abs":=by intro _;rfl)(hs:∀i,starEach [e] (F.cx i).env=[(false,eval e (F.cx i).env)]:=by intro _;rfl):Ev F (.Call (.Name "abs" p') [e] [] pos) ρ (ti (if n<0 then -n else n)):=
 rK (λi=>XF) hm aaZ (ag ha ak hs) (λG H vs Q s hx k=>by
  obtain⟨x,rfl,dE⟩:=iA hx
  replace hx:=dE
  exact⟨n,by rw[aO hx],k.sc s rfl⟩) hg 'Q' 'Q' hs (λ_=>rfl)
def Q5:Dv->vn
 | .fl .aW=>.type "NoneType"
 | .fl (.bl _)=>.type "bool"
 | .fl (.int _)=>.type "int"
 | .fl (.str _)=>.type "str"
 | .fl _=>.none
 | .lst _=>.type "list"
 | .tup _=>.type "tuple"
def Qf (K:Frag)(d:Dv)(n:String)(b:Bool):List V->Hp->VK->Prop:=λxs H Q=>∃x,xs=[x,.ty n]/\Hv K H d x/\PySem.W.kitOne K (Q5 d) (.type n)=some b/\Q (.bl b) H
theorem XQ {b:Bool}:eY X (.builtin "isinstance") (Qf X.K d n b):=by
 intro pins s σ H xs us Q I r h;obtain⟨x,rfl,hx,hb,q⟩:_:=h;cases r with
 |cons r1 rr=>cases rr with
  |cons r2 rr=>
   cases rr
   cases (r2)
   have fin:∀tk,EP X pins σ Q (.bool b) {s with toks:=tk}:=λtk=>⟨.bl b,H,I.tok tk,rfl,q⟩
   cases d with
   |fl v=>
    obtain⟨rfl,f⟩:=hx;cases x with
    |aW=>exact xR I r1 .aW hb fin
    |bl y=>exact xR I r1 (.bl y) hb fin
    |int y=>exact xR I r1 (.int y) hb fin
    |str y=>exact xR I r1 (.str y) hb fin
    |jA y=>cases f
    |oF y=>cases f
    |ref y=>cases f
    |ty y=>cases f
   |lst ds=>
    obtain⟨a,xs,rfl,h1,_⟩:=hx;cases r1;obtain⟨its,_,⟨o,n,h2,h3,_⟩,_⟩:=I.list h1;exact ae8 afP I.dw ⟨o,h2,h3⟩ hb (λz=>nomatch z) fin
   |tup ds=>
    obtain⟨a,xs,rfl,h1,_⟩:=hx;cases r1;obtain⟨its,_,⟨o,h2,h3,_⟩,_⟩:=I.tuple h1;exact ae8 PySem.W.kitx_tuple I.dw ⟨o,h2,h3⟩ hb (λz=>nomatch z) fin
theorem mY (hm:F.mg "isinstance"=none)(i7:F.mg x=none)(hv:bootBuiltins x=some (.type n))(ha:Ev F e ρ ta)(hk:PySem.W.kitOne F.K (Q5 (er ta)) (.type n)=some bo){p' p2:Pos}(hg:∀i,Gl (F.cx i) "isinstance":=by intro _;rfl)(jF:∀i,Gl (F.cx i) x:=by intro _;rfl)(hn:x ≠ "__name__":=by decide)(hd:(x==("__debug__":Str))=false:=by decide)(hs:∀i,starEach [e,.Name x p2] (F.cx i).env=[(false,eval e (F.cx i).env),(false,eval (.Name x p2) (F.cx i).env)]:=by intro _;rfl):Ev F (.Call (.Name "isinstance" p') [e,.Name x p2] [] pos) ρ (tb bo):=by
 obtain⟨τ,y,z⟩:_:=ha.use;refine⟨lZ (Qf F.K (er ta) n bo) (dH τ (dH (tC (.ty n)) d8)),λi=>um (F.hK i▸XQ) (hg i) ((F.hm i).symm▸hm) UN (cm (y i) (cm (YW (jF i) ((F.hm i).symm▸i7) hv rfl hn hd) cR rfl) (hs i)) 'Q' 'Q' (hs i) rfl,λσ G H Q s rr k=>z σ G H _ s rr λvs G1 H1 s1 hx=>?_⟩;exact⟨vs,rfl,hx.mono s1.s,hk,(k.step s1).sc s1.s rfl⟩
def spT (K:Frag)(R:List Dv->Tr->Prop):Sp:=λvs H Q _=>∃G ds t,aj G H/\aH K G ds vs/\R ds t/\Kv K G H t Q
theorem aU (Fn:Kn F.P F.w F.K F.mg F.base bx k x f fd ps (spT F.K R))(hk:k<=F.room)(ha:jE F (e::es) ρ ts)(hR:R (fh ts) t){p':Pos}(hg:∀i,Gl (F.cx i) x:=by intro _;rfl)(eE:(x==("__debug__":Str))=false:=by decide)(he:∀i,starEach (e::es) (F.cx i).env=(false,eval e (F.cx i).env)::starEach es (F.cx i).env:=by intro _;rfl)(cJ:∀i,(backTo pos (starEach es (F.cx i).env)).any (·.1)=false:=by intro _;rfl):Ev F (.Call (.Name x p') (e::es) [] pos) ρ t:=by
 obtain⟨τ,y,z⟩:_:=ha.use;refine⟨sR (spT F.K R) [] E0 τ,λi=>?_,λσ G H Q s rr k=>z σ G H _ s rr λvs G1 H1 s1 hx=>?_⟩
 ·have jG:Kn (F.cx i).prog (F.cx i).w (F.cx i).K (F.cx i).mg (F.cx i).base bx k x f fd ps (spT F.K R):=by
   rw[F.hP i,F.hw i,F.hK i,F.hm i,F.hb i];omega
  exact EW jG ((F.hr i).mono hk) (hg i) (y i) eE (he i) (cJ i)
 ·rw[AS];exact⟨G1,_,t,s1.s,hx,hR,k.step s1⟩
end
def bw (K:Frag)(G H:Hp):En->St->List adV->Prop
 |[],σ,fp=>σ=[]/\fp=[]
 |none::ρ,σ,fp=>∃o r,σ=o::r/\bw K G H ρ r fp
 |some t::ρ,σ,fp=>∃v r f1 f2,σ=some v::r/\fp=f1++f2/\Ow K G H t v f1/\bw K G H ρ r f2
theorem bw.mono {K:Frag}(e:aj G G')(e':aj H H'):∀{ρ:En} {σ:St} {fp:List adV},bw K G H ρ σ fp->bw K G' H' ρ σ fp
 |[],_,_,h=>h
 |none::_,_,_,z9=>by obtain⟨o,r,h1,h2⟩:=z9;exact⟨o,r,h1,bw.mono e e' h2⟩
 |some _::_,_,_,z9=>by obtain⟨v,r,f1,f2,h1,h2,h3,h4⟩:=z9;exact⟨v,r,f1,f2,h1,h2,h3.mono e e',bw.mono e e' h4⟩
theorem bw.frame {K:Frag}:∀{ρ:En} {σ:St} {fp:List adV},bw K G H ρ σ fp->a∉fp->bw K G (upd H a o) ρ σ fp
 |[],_,_,h=>λ_=>h
 |none::_,_,_,⟨o,r,h1,h2⟩=>λn=>⟨o,r,h1,bw.frame h2 n⟩
 |some _::_,_,_,⟨v,r,f1,f2,h1,h2,h3,h4⟩=>λn=>by
  subst h2;exact⟨v,r,f1,f2,h1,rfl,h3.frame λz=>n (xy _ z),bw.frame h4 λz=>n (l7 _ z)⟩
theorem bw.there {K:Frag}:∀{ρ:En} {σ:St} {fp:List adV},bw K G H ρ σ fp->∀a∈fp,∃o,H a=some o
 |[],_,_,z9,a,ha=>by obtain⟨_,h⟩:=z9;simp_all
 |none::_,_,_,z9,a,ha=>by obtain⟨o,r,h1,h2⟩:=z9;exact bw.there h2 a ha
 |some _::_,_,_,z9,a,ha=>by
  obtain⟨v,r,f1,f2,h1,h2,h3,h4⟩:=z9;subst h2;obtain ha|ha:=qr.mp ha
  ·exact h3.there a ha
  ·exact bw.there h4 a ha
theorem bw.off {K:Frag}(r:bw K G H ρ σ fp)(s1:Step G H G1 H1)(g:∀a∈fp,G a=none):∀a∈fp,G1 a=none:=λa ha=>by
 cases q:G1 a with
 |none=>rfl
 |some u=>
  obtain⟨u',bp⟩:=r.there a ha;have:=s1.n a (g a ha) 'J'
  simp_all
theorem bw.tH {K:Frag}:∀{ρ:En} {σ:St} {fp:List adV},bw K G H ρ σ fp->aX K G ρ σ
 |[],_,_,_,j=>λd h=>'J'
 |none::_,_,_,z9,0=>λd h=>by obtain⟨o,r,h1,h2⟩:=z9;cases h
 |none::_,_,_,z9,j+1=>λd h=>by obtain⟨o,r,h1,h2⟩:=z9;subst h1;exact bw.tH h2 j d h
 |some _::_,_,_,z9,0=>λd h=>by obtain⟨v,r,f1,f2,h1,h2,h3,h4⟩:=z9;cases h;subst h1;exact⟨v,rfl,h3.2⟩
 |some _::_,_,_,z9,j+1=>λd h=>by obtain⟨v,r,f1,f2,h1,h2,h3,h4⟩:=z9;subst h1;exact bw.tH h4 j d h
def pk (ρ:En):En:=ρ.map (Option.map λt=>.fz (er t))
theorem bw.pk {K:Frag}(e:aj G G'):∀{ρ:En} {σ:St} {fp:List adV},bw K G H ρ σ fp->(∀a∈fp,G' a=H a)->aX K G' (pk ρ) σ
 |[],_,_,_,_,j=>λd h=>by cases j<;>cases h
 |none::_,_,_,z9,_,0=>λd h=>by obtain⟨o,r,h1,h2⟩:=z9;cases h
 |none::_,_,_,z9,q,j+1=>λd h=>by obtain⟨o,r,h1,h2⟩:=z9;subst h1;exact bw.pk e h2 q j d h
 |some _::_,_,_,z9,q,0=>λd h=>by
  obtain⟨v,r,f1,f2,h1,h2,h3,h4⟩:=z9;cases h;subst h1 h2;exact⟨v,rfl,h3.hv e λa ha=>q a (xy _ ha)⟩
 |some _::_,_,_,z9,q,j+1=>λd h=>by
  obtain⟨v,r,f1,f2,h1,h2,h3,h4⟩:=z9;subst h1 h2;exact bw.pk e h4 (λa ha=>q a (l7 _ ha)) j d h
theorem bw.split {K:Frag}:∀{ρ:En} {σ:St} {fp:List adV} {j:Nat} {t:Tr},bw K G H ρ σ fp->ρ[j]?=some (some t) ->
  ∃v f fr,σ[j]?=some (some v)/\Ow K G H t v f/\bw K G H (ρ.set j none) σ fr/\fp.Perm (f++fr)
 |none::_,_,_,0,_,_,h=>by cases h
 |none::_,_,_,j+1,t,z9,h=>by
  obtain⟨o,r,h1,h2⟩:=z9;subst h1;obtain⟨v,f,fr,q1,q2,q3,q4⟩:_:=bw.split (j:=j) h2 h;exact⟨v,f,fr,q1,q2,⟨o,r,rfl,q3⟩,q4⟩
 |some _::_,_,_,0,t,z9,h=>by
  obtain⟨v,r,f1,f2,h1,h2,h3,h4⟩:=z9;cases h;subst h1 h2;exact⟨v,f1,f2,rfl,h3,⟨some v,r,rfl,h4⟩,.refl _⟩
 |some _::_,_,_,j+1,t,z9,h=>by
  obtain⟨v,r,f1,f2,h1,h2,h3,h4⟩:=z9;subst h1 h2;obtain⟨v',f,fr,q1,q2,q3,q4⟩:_:=bw.split h4 h;refine⟨v',f,f1++fr,q1,q2,⟨v,r,f1,fr,rfl,rfl,h3,q3⟩,?_⟩;refine(NH f1 q4).trans ?_;rw[<- CS,<- CS];exact SI fr adm
theorem bw.forget {K:Frag}:∀{ρ:En} {σ:St} {fp:List adV} (j:Nat),bw K G H ρ σ fp->∃fr,bw K G H (ρ.set j none) σ fr/\fr.Sublist fp
 |[],_,_,_,h=>⟨_,h,.refl _⟩
 |none::_,_,_,0,z9=>by obtain⟨o,r,h1,h2⟩:=z9;exact⟨_,⟨o,r,h1,h2⟩,.refl _⟩
 |none::_,_,_,j+1,z9=>by
  obtain⟨o,r,h1,h2⟩:=z9;obtain⟨fr,q1,q2⟩:=bw.forget j h2;exact⟨fr,⟨o,r,h1,q1⟩,q2⟩
 |some _::_,_,_,0,z9=>by obtain⟨v,r,f1,f2,h1,h2,h3,h4⟩:=z9;exact⟨f2,⟨some v,r,h1,h4⟩,h2▸List.sublist_append_right _ _⟩
 |some _::_,_,_,j+1,z9=>by
  obtain⟨v,r,f1,f2,h1,h2,h3,h4⟩:=z9;obtain⟨fr,q1,q2⟩:=bw.forget j h4;exact⟨f1++fr,⟨v,r,f1,fr,h1,rfl,h3,q1⟩,h2▸List.Sublist.append (.refl _) q2⟩
theorem bw.put {K:Frag}:∀{ρ:En} {σ:St} {fr:List adV} {j:Nat} {t:Tr} {v:V} {f:List adV},bw K G H ρ σ fr->ρ[j]?=some none->Ow K G H t v f ->
  ∃fp,bw K G H (ρ.set j (some t)) (σ.set j (some v)) fp/\fp.Perm (f++fr)
 |none::_,_,fr,0,t,v,f,z9,_,w=>by obtain⟨o,r,h1,h2⟩:=z9;subst h1;exact⟨_,⟨v,r,f,fr,rfl,rfl,w,h2⟩,.refl _⟩
 |none::_,_,_,j+1,t,v,f,z9,h,w=>by
  obtain⟨o,r,h1,h2⟩:=z9;subst h1;obtain⟨fp,q1,q2⟩:=bw.put (j:=j) h2 h w;exact⟨fp,⟨o,_,rfl,q1⟩,q2⟩
 |some _::_,_,_,0,_,_,_,_,h,_=>by cases h
 |some _::_,_,_,j+1,t,v,f,z9,h,w=>by
  obtain⟨v',r,f1,f2,h1,h2,h3,h4⟩:=z9;subst h1 h2;obtain⟨fp,q1,q2⟩:=bw.put h4 h w;refine⟨f1++fp,⟨v',_,f1,fp,rfl,rfl,h3,q1⟩,?_⟩;refine(NH f1 q2).trans ?_;rw[<- CS,<- CS];exact SI f2 adm
structure fj (K:Frag) (G0 H0 G H:Hp) (ρ:En) (σ:St) (fp:List adV):Prop where
 st:Step G0 H0 G H
 own:bw K G H ρ σ fp
 g:∀a∈fp,G a=none
 n:∀a∈fp,H0 a=none
 d:fp.Nodup
def RS (K:Frag)(G0 H0 G H:Hp)(ρ:En)(σ:St):Prop:=∃fp,fj K G0 H0 G H ρ σ fp
theorem t9 {α:Type}{ρ:List (Option α)}(h:j < ρ.length):(ρ.set j none)[j]?=some none:='J'
theorem fj.forget {K:Frag}(r:fj K G0 H0 G H ρ σ fp)(j:Nat):∃fr,fj K G0 H0 G H (ρ.set j none) σ fr/\fr.Sublist fp:=by
 obtain⟨fr,q1,q2⟩:=r.own.forget j;exact⟨fr,⟨r.st,q1,λa ha=>r.g a (q2.subset ha),λa ha=>r.n a (q2.subset ha),r.d.sublist q2⟩,q2⟩
theorem RS.forget {K:Frag}(r:RS K G0 H0 G H ρ σ)(j:Nat):RS K G0 H0 G H (ρ.set j none) σ:=by
 obtain⟨fp,r⟩:=r;obtain⟨fr,q,_⟩:=r.forget j;exact⟨fr,q⟩
theorem fj.set {K:Frag}(r:fj K G0 H0 G H ρ σ fp)(hj:j < ρ.length)(e:Step G H G1 H1)(o:Ow K G1 H1 t v fq)(w:Nw H G1 fq):
  RS K G0 H0 G1 H1 (ρ.set j (some t)) (σ.set j (some v)):=by
 obtain⟨fr,r1,sub⟩:_:=r.forget j;have acS:=r1.own.mono e.g e.h;obtain⟨hW,q1,q2⟩:=acS.put (t9 hj) o;rw[afy]at q1;have dis:∀a∈fq,∀b∈fr,a≠b:=λa ha b hb z=>by
  subst z;obtain⟨u,hu⟩:=r1.own.there a hb;rw[w.n a ha]at hu;cases hu
 refine⟨hW,r.st.trans e,q1,λa ha=>?_,λa ha=>?_,q2.nodup_iff.mpr (ze.mpr ⟨w.d,r1.d,dis⟩)⟩
 ·obtain z|z:=qr.mp (q2.mem_iff.mp ha)
  ·exact w.g a z
  ·cases q:G1 a with
   |none=>rfl
   |some u=>
    obtain⟨u',bp⟩:=r1.own.there a z;have:=e.n a (r1.g a z) 'J'
    simp_all
 ·obtain z|z:=qr.mp (q2.mem_iff.mp ha)
  ·exact r.st.h.free (w.n a z)
  ·exact r1.n a z
def less (H:Hp)(fp:List adV):Hp:=λa=>if a∈fp then none else H a
theorem Le (h:a∈fp):less H fp a=none:=by unfold less;rw[uu h]
theorem J7 (h:a∉fp):less H fp a=H a:=by unfold less;rw[rf h]
theorem XR:aj (less H fp) H:=λb o e=>by
 by_cases q:b∈fp
 ·rw[Le q]at e;cases e
 ·rw[J7 q]at e;exact e
theorem JB (s:aj G H)(h:∀a∈fp,G a=none):aj G (less H fp):=λb o e=>by
 by_cases q:b∈fp
 ·simp_all
 ·rw[J7 q];exact s b o e
theorem fj.rebase {K:Frag}(r:fj K G0 H0 G H ρ σ fp):fj K G (less H fp) G H ρ σ fp:=
 ⟨⟨aj.refl _,XR,r.st.s,λa h h'=>absurd h h'⟩,r.own,r.g,λa ha=>Le ha,r.d⟩
theorem fj.base {K:Frag}(r:fj K G0 H0 G H ρ σ fp):Step G0 H0 G (less H fp):=
 ⟨r.st.g,JB r.st.h r.n,JB r.st.s r.g,r.st.n⟩
theorem RS.under {K:Frag}(e:Step G0 H0 G1 H1)(r:RS K G1 H1 G H ρ σ):RS K G0 H0 G H ρ σ:=by
 obtain⟨fp,r⟩:=r;exact⟨fp,e.trans r.st,r.own,r.g,λa ha=>e.h.free (r.n a ha),r.d⟩
inductive Out where
 |nx (ρ:En)
 |rt (t:Tr)
def zP (K:Frag)(G0 H0:Hp)(D:Ends):Out->Prop
 | .nx ρ => ∀σ G H,RS K G0 H0 G H ρ σ->D.nx σ H
 | .rt t=>∀v G H fq,Step G0 H0 G H->Ow K G H t v fq->Nw H0 G fq->D.rt v H
theorem zP.under {K:Frag}(e:Step G0 H0 G1 H1)(p:zP K G0 H0 D o):zP K G1 H1 D o:=by
 cases o with
 |nx ρ => exact λσ G H r=>p σ G H (r.under e)
 |rt t=>exact λv G H fq s o w=>p v G H fq (e.trans s) o ⟨λa ha=>e.h.free (w.n a ha),w.g,w.d⟩
def Q6 (K:Frag)(τ:TS)(ρ:En)(o:Out):Prop:=∀D σ G0 H0 G H,RS K G0 H0 G H ρ σ->zP K G0 H0 D o->τ D σ H
section
def Rn (F:aS ι)(st:age)(ρ:En)(o:Out):Prop:=∃τ:TS,(∀i,PS (F.cx i) st τ)/\Q6 F.K τ ρ o
def bt (F:aS ι)(dN:List age)(ρ:En)(o:Out):Prop:=∃τ:TS,(∀i,gC (F.cx i) dN τ)/\Q6 F.K τ ρ o
def bB (F:aS ι)(e:Expr)(ρ:En)(t:Tr):Prop:=∃τ:TE,(∀i,PE (F.cx i) e τ)/\∀σ G H fp Q,aj G H->bw F.K G H ρ σ fp->(∀a∈fp,G a=none)->Kv F.K G H t Q->τ σ H Q
def fI (F:aS ι)(e:Expr)(ρ:En)(b:Bool):Prop:=∃τ:TT,(∀i,PT (F.cx i) e τ)/\∀σ G H fp Q,aj G H->bw F.K G H ρ σ fp->(∀a∈fp,G a=none)->(∀G' H',Step G H G' H'->Q b H')->τ σ H Q
variable {F:aS ι}{ρ:En}{pos:Pos}{st:age}
theorem Ev.s (h:Ev F e ρ t):bB F e ρ t:=by obtain⟨τ,x,y⟩:=h;exact⟨τ,x,λσ G H fp Q s r _ k=>y σ G H Q s r.tH k⟩
theorem Et.s (h:Et F e ρ p):fI F e ρ p:=by obtain⟨τ,x,y⟩:=h;exact⟨τ,x,λσ G H fp Q s r _ k=>y σ G H Q s r.tH k⟩
mutual
noncomputable def Cl:Tr->Prop
 | .fz (.fl _)=>True
 | .fz _=>False
 | .ow ts=>vJ ts
 | .tp ts=>vJ ts
noncomputable def vJ:List Tr->Prop
 |[] => True
 |t::ts=>Cl t/\vJ ts
end
mutual
theorem Ow.cl {K:Frag}{G G' H:Hp}:∀{t:Tr} {v:V} {fp:List adV},Cl t->Ow K G H t v fp->Ow K G' H t v fp
 | .fz (.fl _),_,_,_,h=>h
 | .fz (.lst _),_,_,c,_=>c.elim
 | .fz (.tup _),_,_,c,_=>c.elim
 | .ow _,_,_,c,⟨b,vs,fq,h1,h2,h3,h4⟩=>⟨b,vs,fq,h1,h2,aV.cl c h3,h4⟩
 | .tp _,_,_,c,⟨b,vs,fq,h1,h2,h3,h4⟩=>⟨b,vs,fq,h1,h2,aV.cl c h3,h4⟩
theorem aV.cl {K:Frag}{G G' H:Hp}:∀{ts:List Tr} {vs:List V} {fp:List adV},vJ ts->aV K G H ts vs fp->aV K G' H ts vs fp
 |[],_,_,_,h=>h
 |_::_,_,_,⟨c1,c2⟩,⟨v,r,f1,f2,h1,h2,h3,h4⟩=>⟨v,r,f1,f2,h1,h2,h3.cl c1,aV.cl c2 h4⟩
end
theorem yw:∀ns:LI,vJ (ns.map λn=>Tr.fz (di n))
 |[] => True.intro
 |_::ns=>⟨True.intro,yw ns⟩
theorem Ev.pk (h:Ev F e (pk ρ) t)(c:Cl t):bB F e ρ t:=by
 obtain⟨τ,x,y⟩:=h;refine⟨τ,x,λσ G H fp Q s r hg k=>?_⟩;refine y σ (cD G H fp) H Q (gk s) (r.pk (fm hg) λa ha=>du ha) λv G' H' fq st o w=>?_
 refine k v G H' fq ⟨aj.refl _,st.h,s.trans st.h,λa h h'=>absurd h h'⟩ (o.cl c) ⟨w.n,λa ha=>s.free (w.n a ha),w.d⟩
theorem Et.pk (h:Et F e (pk ρ) p):fI F e ρ p:=by
 obtain⟨τ,x,y⟩:=h;refine⟨τ,x,λσ G H fp Q s r hg k=>?_⟩;refine y σ (cD G H fp) H Q (gk s) (r.pk (fm hg) λa ha=>du ha) λG' H' st=>?_
 exact k G H' ⟨aj.refl _,st.h,s.trans st.h,λa h h'=>absurd h h'⟩
theorem mN:bt F [] ρ (.nx ρ):=⟨EI,λ_=>C2,λD σ G0 H0 G H r k=>k σ G H r⟩
theorem aq (h1:Rn F st ρ (.nx ρ1))(h2:bt F dN ρ1 o):bt F (st::dN) ρ o:=by
 obtain⟨τ,x,y⟩:=h1;obtain⟨bL,x',y'⟩:=h2;exact⟨eQ τ bL,λi=>dr (x i) (x' i),λD σ G0 H0 G H r k=>y _ σ G0 H0 G H r λao G1 H1 r1=>y' D ao G0 H0 G1 H1 r1 k⟩
theorem rQ (h1:Rn F st ρ (.rt t)):bt F (st::dN) ρ (.rt t):=by
 obtain⟨τ,x,y⟩:=h1;exact⟨eQ τ yI,λi=>dr (x i) BX,λD σ G0 H0 G H r k=>y _ σ G0 H0 G H r k⟩
theorem ay (h1:Rn F st ρ o):bt F [st] ρ o:=by
 obtain⟨τ,x,y⟩:=h1;exact⟨τ,λi=>gG (x i),y⟩
theorem aT (j:Nat){x:Str}{pos':Pos}(he:bB F e ρ t)(hN:∀i,(F.cx i).N.Nodup)(hj:Nat.blt j ρ.length=true:=by rfl)(hi:∀i,(F.cx i).N[j]?=some x:=by intro _;rfl)(hx:∀i,Loc (F.cx i).env.scope x:=by intro _;first|exact Or.inl rfl|exact Or.inr rfl)(hs:∀i,swapsWith e (some (.Name x pos')) pos.line (F.cx i).env=pure false:=by intro _;rfl)(hf:∀i,(F.cx i).fn x=true\/(F.cx i).env.scope.names.lookup x=some .local:=by intro _;first|exact .inl rfl|exact .inr rfl):
  Rn F (.Assign [.Name x pos'] e pos) ρ (.nx (ρ.set j (some t))):=by
 obtain⟨τ,y,z⟩:_:=he;refine⟨lM τ (eJ j),λi=>iq (hN i) (hi i) (hx i) (y i) (hs i) (hf i),λD σ G0 H0 G H r k=>?_⟩;obtain⟨fp,r⟩:=r;exact z σ G H fp _ r.st.s r.own r.g λv G1 H1 fq s1 o w=>k _ G1 H1 (r.set (adv hj) s1 o w)
theorem cu (he:bB F e ρ t):Rn F (.Return (some e) pos) ρ (.rt t):=by
 obtain⟨τ,y,z⟩:_:=he;refine⟨vE τ,λi=>kl (y i),λD σ G0 H0 G H r k=>?_⟩;obtain⟨fp,r⟩:=r;exact z σ G H fp _ r.st.s r.own r.g λv G1 H1 fq s1 o w=>k v G1 H1 fq (r.st.trans s1) o ⟨λa ha=>r.st.h.free (w.n a ha),w.g,w.d⟩
theorem kh (j:Nat){p':Pos}(h : ρ[j]?=some (some t))(hN:∀i,(F.cx i).N[j]?=some x:=by intro _;rfl)(hv:∀i,iF (F.cx i).env.scope x:=by intro _;first|exact Or.inl rfl|exact Or.inr (Or.inl rfl)|exact Or.inr (Or.inr rfl))(hd:(x==("__debug__":Str))=false:=by decide)(hc:(x==("__classdict__":Str))=false:=by decide):Rn F (.Return (some (.Name x p')) pos) ρ (.rt t):=by
 refine⟨vE (dC j),λi=>kl (kj (hN i) (hv i) hd hc),λD σ G0 H0 G H r k=>?_⟩;obtain⟨fp,r⟩:=r;obtain⟨v,f,fr,q1,q2,q3,q4⟩:_:=r.own.split h;have sub:∀a∈f,a∈fp:=λa ha=>q4.mem_iff.mpr (xy _ ha)
 exact⟨v,q1,k v G H f r.st q2 ⟨λa ha=>r.n a (sub a ha),λa ha=>r.g a (sub a ha),(ze.mp (q4.nodup_iff.mp r.d)).1⟩⟩
theorem Y8 (he:bB F e ρ t)(hs:∀i,swapsWith e none pos.line (F.cx i).env=pure false:=by intro _;rfl):Rn F (.Expr e pos) ρ (.nx ρ):=by
 obtain⟨τ,y,z⟩:=he;refine⟨pO τ,λi=>lr (y i) (hs i),λD σ G0 H0 G H r k=>?_⟩;obtain⟨fp,r⟩:=r;refine z σ G H fp _ r.st.s r.own r.g λv G1 H1 fq s1 o w=>k σ G1 H1 ⟨fp,r.st.trans s1,r.own.mono s1.g s1.h,r.own.off s1 r.g,r.n,r.d⟩
theorem vh (hc:fI F c ρ p)(h1:p=true->bt F A ρ o)(h2:p=false->bt F B ρ o):Rn F (.If c A B pos) ρ o:=by
 obtain⟨τ,y,z⟩:_:=hc;have key:∀{G0 H0 G H G1 H1:Hp} {σ:St} {fp:List adV},fj F.K G0 H0 G H ρ σ fp->Step G H G1 H1->RS F.K G0 H0 G1 H1 ρ σ:=λ{G0 H0 G H G1 H1 σ fp} r s1=>⟨fp,r.st.trans s1,r.own.mono s1.g s1.h,r.own.off s1 r.g,r.n,r.d⟩
 cases p with
 |true=>
  obtain⟨bL,x',y'⟩:=h1 rfl;refine⟨FL τ bL yI,λi=>zo (y i) (x' i) BX,λD σ G0 H0 G H r k=>?_⟩;obtain⟨fp,r⟩:=r;exact z σ G H fp _ r.st.s r.own r.g λG1 H1 s1=>lQ (y' D σ G0 H0 G1 H1 (key r s1) k)
 |false=>
  obtain⟨bL,x',y'⟩:=h2 rfl;refine⟨FL τ yI bL,λi=>zo (y i) BX (x' i),λD σ G0 H0 G H r k=>?_⟩;obtain⟨fp,r⟩:=r;exact z σ G H fp _ r.st.s r.own r.g λG1 H1 s1=>lO (y' D σ G0 H0 G1 H1 (key r s1) k)
theorem yc {α:Type}:∀{l:List α} {j:Nat} {v : α},l[j]?=some v->l.set j v=l
 |_::_,0,_,h=>'J'
 |_::_,j+1,_,h=>by rw[List.set_cons_succ,yc (j:=j) h]
theorem Wa (j:Nat)(hj : ρ[j]?=some (some t))(h:bt F dN (ρ.set j (some (.fz (er t)))) o):bt F dN ρ o:=by
 obtain⟨τ,x,y⟩:=h;refine⟨τ,x,λD σ G0 H0 G H r k=>?_⟩;obtain⟨fp,r⟩:=r;obtain⟨v,f,fr,q1,q2,q3,q4⟩:_:=r.own.split hj;have nd:=ze.mp (q4.nodup_iff.mp r.d);have sub:∀a∈f,a∈fp:=λa ha=>q4.mem_iff.mpr (xy _ ha)
 have Qg:∀a∈fr,a∈fp:=λa ha=>q4.mem_iff.mpr (l7 _ ha)
 have sm:aj G (cD G H f):=fm λa ha=>r.g a (sub a ha)
 have lt:j < ρ.length:=by
  grind
 obtain⟨hW,p1,p2⟩:=(q3.mono sm (aj.refl _)).put (t:=.fz (er t)) (t9 lt) ⟨rfl,q2.hv sm λa ha=>du ha⟩;rw[afy,yc q1]at p1;refine y D σ G0 H0 (cD G H f) H ⟨hW,⟨r.st.g.trans sm,r.st.h,gk r.st.s,λa h h'=>?_⟩,p1,λa ha=>?_,λa ha=>r.n a (Qg a (p2.mem_iff.mp ha)),p2.nodup_iff.mpr nd.2.1⟩ k
 ·by_cases z:a∈f
  ·exact r.n a (sub a z)
  ·rw[nT z]at h';exact r.st.n a h h'
 ·have z:=p2.mem_iff.mp ha;rw[nT λz'=>nd.2.2 a z' a z rfl];exact r.g a (Qg a z)
theorem fj.chg {K:Frag}(r:fj K G0 H0 G H ρ σ fp)(hj : ρ[j]?=some (some t))(s1:Step G H G1 H1):
  ∃v f,σ[j]?=some (some v)/\Ow K G H t v f/\Ow K G1 H1 t v f/\f.Nodup/\(∀a∈f,a∈fp)/\∀l o t' f',l∈f->Ow K G1 (upd H1 l o) t' v f'->f'.Nodup->(∀a∈f',a∈f\/(H a=none/\G1 a=none))->RS K G0 H0 G1 (upd H1 l o) (ρ.set j (some t')) σ:=by
 obtain⟨v,f,fr,q1,q2,q3,q4⟩:_:=r.own.split hj;have ic:=ze.mp (q4.nodup_iff.mp r.d);have Al:∀a∈f,a∈fp:=λa ha=>q4.mem_iff.mpr (xy _ ha)
 have rfp:∀a∈fr,a∈fp:=λa ha=>q4.mem_iff.mpr (l7 _ ha)
 have lt:j < ρ.length:=by
  grind
 have lG:∀a∈fp,G1 a=none:=λa ha=>by
  cases q:G1 a with
  |none=>rfl
  |some u=>
   obtain⟨u',bp⟩:=r.own.there a ha;have:=s1.n a (r.g a ha) 'J'
   simp_all
 refine⟨v,f,q1,q2,q2.mono s1.g s1.h,ic.1,Al,λl o t' f' hl ow nw hw=>?_⟩;have new:∀a,H a=none->a∉fp:=λa ha hb=>by
  obtain⟨u,hu⟩:=r.own.there a hb
  simp_all
 have q3':bw K G1 (upd H1 l o) (ρ.set j none) σ fr:=(q3.mono s1.g s1.h).frame λz=>ic.2.2 l hl l z rfl
 obtain⟨hW,Q7,Q4⟩:_:=q3'.put (t9 lt) ow;rw[afy,yc q1]at Q7;have acT:∀a∈hW,a∈fp\/(H a=none/\G1 a=none):=λa ha=>by
  grind
 refine⟨hW,⟨(r.st.trans s1).g,λb u hb=>?_,λb u hb=>?_,(r.st.trans s1).n⟩,Q7,λa ha=>?_,λa ha=>?_,?_⟩
 ·have gR:=(r.st.trans s1).h b u hb;rw[aQ λz=>?_]
  ·omega
  ·subst z;rw[r.n _ (Al _ hl)]at hb;cases hb
 ·have gR:=s1.s b u hb;rw[aQ λz=>?_]
  ·omega
  ·simp_all
 ·grind
 ·exact(acT a ha).elim (r.n a) λz=>r.st.h.free z.1
 ·grind
theorem fj.mut {K:Frag}(r:fj K G0 H0 G H ρ σ fp)(hj : ρ[j]?=some (some (.ow us)))(s1:Step G H G1 H1):
  ∃l vs fq,σ[j]?=some (some (.ref l))/\H l=some (.lst vs)/\H1 l=some (.lst vs)/\aV K G1 H1 us vs fq/\fq.Nodup/\(∀a∈fq,a∈fp)/\∀Am ws fw,aV K G1 H1 Am ws fw->fw.Nodup->(∀a∈fw,a∈fq\/(H a=none/\G1 a=none))->RS K G0 H0 G1 (upd H1 l (.lst ws)) (ρ.set j (some (.ow Am))) σ:=by
 obtain⟨v,f,q1,q2,q3,nd,Al,q⟩:_:=r.chg hj s1;obtain⟨l,vs,fq,rfl,hl,ol,rfl⟩:_:=q3;obtain⟨l',nJ,Q8,e1,An,_,e2⟩:_:=q2;cases e1;have ev:nJ=vs:=by
  have:=s1.h _ _ An;rw[hl]at this;cases this;rfl
 subst ev;have Q9:=AE.mp nd;refine⟨l,nJ,fq,q1,An,hl,ol,Q9.2,λa ha=>Al a (.tail _ ha),λAm ws fw ow nw hw=>?_⟩;have Ra:=λz=>(hw l z).elim Q9.1 λz=>by rw[z.1]at An;cases An
 exact q l (.lst ws) (.ow Am) (l::fw) (.head _) ⟨l,ws,fw,rfl,bQ,ow.frame Ra,rfl⟩ (AE.mpr ⟨Ra,nw⟩) λa ha=>(ff.mp ha).elim (λz=>.inl (z▸.head _)) λz=>(hw a z).imp (λz=>.tail _ z) id
theorem iQ (j:Nat){p1 p2 p3:Pos}(h : ρ[j]?=some (some (.ow us)))(he:bB F e ρ t)(hz:us.length<sizeLine)(hN:∀i,(F.cx i).N[j]?=some x:=by intro _;rfl)(hv:∀i,iF (F.cx i).env.scope x:=by intro _;first|exact Or.inl rfl|exact Or.inr (Or.inl rfl)|exact Or.inr (Or.inr rfl))(hd:(x==("__debug__":Str))=false:=by decide)(hc:(x==("__classdict__":Str))=false:=by decide)(jl:∀i,attributeBase (.Name x p1) "append" (F.cx i).env (eval (.Name x p1) (F.cx i).env)=eval (.Name x p1) (F.cx i).env:=by intro _;rfl)(jt:∀i,((backTo p3 (starEach [e] (F.cx i).env)).all (λx=>!x.1)&&(backToKw p3 (keywordEach [] (F.cx i).env)).all (λx=>x.1.isSome)&&decide (([e]:List Expr).length+([]:List Keyword).length+(if([]:List Keyword).isEmpty then 0 else 1)<30))=true:=by intro _;rfl)(hline:(p2.endLine==p3.line)=true:=by rfl)(hs:∀i,starEach [e] (F.cx i).env=[(false,eval e (F.cx i).env)]:=by intro _;rfl)(kQ:∀i,swapsWith (.Call (.Attribute (.Name x p1) "append" p2) [e] [] p3) none pos.line (F.cx i).env=pure false:=by intro _;rfl):
  Rn F (.Expr (.Call (.Attribute (.Name x p1) "append" p2) [e] [] p3) pos) ρ (.nx (ρ.set j (some (.ow (us++[t]))))):=by
 obtain⟨τ,y,z⟩:_:=he;refine⟨pO (nD F.K "list" yu (dC j) (dH τ d8)),λi=>lr (F.hK i▸lF GG YA YE oY (kj (hN i) (hv i) hd hc) (cm (y i) cR (hs i)) (jl i) (jt i) hline (hs i) rfl) (kQ i),λD σ G0 H0 G H r k=>?_⟩;obtain⟨fp,r⟩:=r;obtain⟨l0,Ao,Ap,c1,c2,_⟩:_:=r.mut h (.refl r.st.s);refine⟨_,c1,.inl ⟨rfl,_,aM.of c2⟩,?_⟩;refine z σ G H fp _ r.st.s r.own r.g λv1 G1 H1 f1 s1 o1 w1=>?_
 obtain⟨l,vs,fq,d1,d2,d3,d4,d5,d6,d7⟩:_:=r.mut h s1;rw[c1]at d1;cases d1;refine⟨l0,vs,v1,rfl,rfl,d3,by rw[<- d4.length];exact hz,k σ G1 _ (d7 (us++[t]) (vs++[v1]) (fq++(f1++[])) (d4.append ⟨v1,[],f1,[],rfl,rfl,o1,rfl,rfl⟩) ?_ λa ha=>?_)⟩
 ·rw[AS];refine ze.mpr ⟨d5,w1.d,λa ha b hb e=>?_⟩;subst e;obtain⟨u,hu⟩:=r.own.there a (d6 a ha);rw[w1.n a hb]at hu;cases hu
 ·rw[AS]at ha;exact(qr.mp ha).imp id λz=>⟨w1.n a z,w1.g a z⟩
theorem W4 (j:Nat){p1 p2 p3:Pos}(h : ρ[j]?=some (some (.ow us)))(he:bB F e ρ (.ow nJ))(hz:us.length+nJ.length<=sizeLine)(hN:∀i,(F.cx i).N[j]?=some x:=by intro _;rfl)(hv:∀i,iF (F.cx i).env.scope x:=by intro _;first|exact Or.inl rfl|exact Or.inr (Or.inl rfl)|exact Or.inr (Or.inr rfl))(hd:(x==("__debug__":Str))=false:=by decide)(hc:(x==("__classdict__":Str))=false:=by decide)(jl:∀i,attributeBase (.Name x p1) "extend" (F.cx i).env (eval (.Name x p1) (F.cx i).env)=eval (.Name x p1) (F.cx i).env:=by intro _;rfl)(jt:∀i,((backTo p3 (starEach [e] (F.cx i).env)).all (λx=>!x.1)&&(backToKw p3 (keywordEach [] (F.cx i).env)).all (λx=>x.1.isSome)&&decide (([e]:List Expr).length+([]:List Keyword).length+(if([]:List Keyword).isEmpty then 0 else 1)<30))=true:=by intro _;rfl)(hline:(p2.endLine==p3.line)=true:=by rfl)(hs:∀i,starEach [e] (F.cx i).env=[(false,eval e (F.cx i).env)]:=by intro _;rfl)(kQ:∀i,swapsWith (.Call (.Attribute (.Name x p1) "extend" p2) [e] [] p3) none pos.line (F.cx i).env=pure false:=by intro _;rfl):
  Rn F (.Expr (.Call (.Attribute (.Name x p1) "extend" p2) [e] [] p3) pos) ρ (.nx (ρ.set j (some (.ow (us++nJ))))):=by
 obtain⟨τ,y,z⟩:_:=he;refine⟨pO (nD F.K "list" C5 (dC j) (dH τ d8)),λi=>lr (F.hK i▸lF GG PySem.F.slot_list_extend PySem.F.type_list_extend Jz (kj (hN i) (hv i) hd hc) (cm (y i) cR (hs i)) (jl i) (jt i) hline (hs i) rfl) (kQ i),λD σ G0 H0 G H r k=>?_⟩;obtain⟨fp,r⟩:=r;obtain⟨l0,Ao,Ap,c1,c2,_⟩:_:=r.mut h (.refl r.st.s);refine⟨_,c1,.inl ⟨rfl,_,aM.of c2⟩,?_⟩;refine z σ G H fp _ r.st.s r.own r.g λv1 G1 H1 f1 s1 o1 w1=>?_
 obtain⟨l,vs,fq,d1,d2,d3,d4,d5,d6,d7⟩:_:=r.mut h s1;rw[c1]at d1;cases d1;obtain⟨b,zs,fz',rfl,hb,ob,rfl⟩:_:=o1;have wd:=AE.mp w1.d;refine⟨l0,b,vs,zs,rfl,rfl,d3,hb,by rw[<- d4.length,<- ob.length];exact hz,k σ G1 _ (d7 (us++nJ) (vs++zs) (fq++fz') (d4.append ob) ?_ λa ha=>?_)⟩
 ·refine ze.mpr ⟨d5,wd.2,λa ha b hb e=>?_⟩;subst e;obtain⟨u,hu⟩:=r.own.there a (d6 a ha);rw[w1.n a (.tail _ hb)]at hu;cases hu
 ·exact(qr.mp ha).imp id λz=>⟨w1.n a (.tail _ z),w1.g a (.tail _ z)⟩
end
end L2
namespace L2
open PySem PySem.Spec PyProof.Rows
def Aq (K:Frag)(G:Hp)(J:It)(its:List Dv):Prop:=∀k G1 H1,aj G G1->aj G1 H1 ->
 (∀d,its[k]?=some d->J.go k H1/\∀x H3,J.v7 k H1 x H3->∃G3,Step G1 H1 G3 H3/\Hv K G3 d x)/\(k=its.length->J.stop k H1)
def a7 {α:Type}:List Nat->List α->List (Option α)->List (Option α)
 |j::js,v::vs,σ => a7 js vs (σ.set j (some v))
 |_,_,σ => σ
def jf {α:Type}:List Nat->List (Option α)->List (Option α)
 |[],ρ => ρ
 |j::js,ρ => jf js (ρ.set j none)
theorem RS.jf {K:Frag}:∀{ρ:En} {σ:St} (js:List Nat),RS K G0 H0 G H ρ σ->RS K G0 H0 G H (L2.jf js ρ) σ
 |_,_,[],r=>r
 |_,_,j::js,r=>RS.jf js (r.forget j)
def Fg (ρ ρ':En):Prop:=∃fs,L2.jf fs ρ=ρ'
theorem Fg.rs {K:Frag}(f:Fg ρ ρ')(r:RS K G0 H0 G H ρ σ):RS K G0 H0 G H ρ' σ:=by
 obtain⟨fs,rfl⟩:=f;exact r.jf fs
theorem RS.a7 {K:Frag}:∀{js:List Nat} {ds:List Dv} {vs:List V} {ρ:En} {σ:St},(∀j∈js,j < ρ.length)->aH K G ds vs->RS K G0 H0 G H ρ σ->RS K G0 H0 G H (L2.a7 js (ds.map .fz) ρ) (L2.a7 js vs σ)
 |[],_,_,_,_,_,_,r=>r
 |_::_,[],_,_,_,_,h,r=>by rw[h];exact r
 |j::js,d::ds,_,ρ,σ,hj,z9,z8=>by
  obtain⟨x,q,h1,h2,h3⟩:=z9;obtain⟨fp,r⟩:=z8;subst h1;have r':RS K G0 H0 G H (ρ.set j (some (.fz d))) (σ.set j (some x)):=r.set (hj j (.head _)) (.refl r.st.s) ⟨rfl,h2⟩ .nil;exact RS.a7 (js:=js) (λi hi=>'J') h3 r'
theorem aX.set {K:Frag}(r:aX K G ρ σ)(hj:j < σ.length)(h:Hv K G d v):aX K G (ρ.set j (some (.fz d))) (σ.set j (some v)):=λi e hi=>by
 by_cases q:i=j
 ·subst q;rw[aab (by
   obtain z|z:=EM i ρ.length
   ·exact z
   ·rw[Mc (by rw[PM];exact z)]at hi;cases hi)]at hi
  cases hi
  exact⟨v,by rw[aab hj],h⟩
 ·rw[EU (ad7 q)]at hi;obtain⟨u,h1,h2⟩:=r i e hi;exact⟨u,by rw[EU (ad7 q)];exact h1,h2⟩
theorem ud:∀js (vs:List α) σ,(a7 js vs σ).length=σ.length
 |[],_,_=>rfl
 |_::_,[],_=>rfl
 |j::js,v::vs,σ => by
  show(a7 js vs (σ.set j (some v))).length=_;rw[ud js vs,PM]
theorem aX.a7 {K:Frag}:∀{js:List Nat} {ds:List Dv} {vs:List V} {ρ:En} {σ:St},(∀j∈js,j < σ.length)->aH K G ds vs->aX K G ρ σ->aX K G (L2.a7 js (ds.map .fz) ρ) (L2.a7 js vs σ)
 |[],_,_,_,_,_,_,r=>r
 |_::_,[],_,_,_,_,h,r=>by rw[h];exact r
 |j::js,d::ds,_,ρ,σ,hj,z9,r=>by
  obtain⟨x,q,h1,h2,h3⟩:=z9;subst h1;exact aX.a7 (js:=js) (λi hi=>'J') h3 (r.set (hj j (.head _)) h2)
section
def bb (F:aS ι)(tg iter:Expr)(ρ:En)(its:List Dv):Prop:=∃wi:TI,(∀i,PI (F.cx i) tg iter wi)/\∀σ G H (R:It->Hp->Prop),aj G H->aX F.K G ρ σ->(∀J G' H',Step G H G' H'->Aq F.K G' J its->R J H')->wi σ H R
def vK (F:aS ι)(tg iter:Expr)(ρ:En)(its:List Dv):Prop:=∃wi:TI,(∀i,PI (F.cx i) tg iter wi)/\∀σ G H fp (R:It->Hp->Prop),aj G H->bw F.K G H ρ σ fp->(∀a∈fp,G a=none)->(∀J G' H',Step G H G' H'->Aq F.K G' J its->R J H')->wi σ H R
def ie (F:aS ι)(tg:Expr)(js:List Nat)(sp:Dv->Option (List Dv)):Prop:=∃g:TG,(∀i,PG (F.cx i) tg g)/\∀d dd v σ G H Q,sp d=some dd->aj G H->Hv F.K G d v->(∀vs,aH F.K G dd vs->Q (a7 js vs σ) H)->g v σ H Q
def uS (F:aS ι)(dN:List age):TS:=λD σ H=>∃τ:TS,(∀i,gC (F.cx i) dN τ)/\τ D σ H
theorem O4 (i : ι):gC (F.cx i) dN (uS F dN):=λpins s σ H D I ⟨τ,h,q⟩=>h i pins s σ H D I q
def uT (F:aS ι)(e:Expr):TT:=λσ H Q=>∃τ:TT,(∀i,PT (F.cx i) e τ)/\τ σ H Q
theorem vi (i : ι):PT (F.cx i) e (uT F e):=λpins s σ H D I ⟨τ,h,q⟩=>h i pins s σ H D I q
def uE (F:aS ι)(e:Expr):TE:=λσ H Q=>∃τ:TE,(∀i,PE (F.cx i) e τ)/\τ σ H Q
theorem dR (i : ι):PE (F.cx i) e (uE F e):=λpins s σ H D I ⟨τ,h,q⟩=>h i pins s σ H D I q
variable {F:aS ι}{tg:Expr}{pos:Pos}{js:List Nat}
theorem bb.s (h:bb F tg iter ρ its):vK F tg iter ρ its:=by obtain⟨w,x,y⟩:=h;exact⟨w,x,λσ G H fp R s r _ k=>y σ G H R s r.tH k⟩
theorem bu (j:Nat)(hN:∀i,(F.cx i).N.Nodup)(hi:∀i,(F.cx i).N[j]?=some x:=by intro _;rfl)(hx:∀i,Loc (F.cx i).env.scope x:=by intro _;first|exact Or.inl rfl|exact Or.inr rfl)(hf:∀i,(F.cx i).fn x=true\/(F.cx i).env.scope.names.lookup x=some .local:=by intro _;first|exact .inl rfl|exact .inr rfl):ie F (.Name x pos) [j] (λd=>some [d]):=
 ⟨eJ j,λi=>jJ (hN i) (hi i) (hx i) (hf i),λd dd v σ G H Q e s h k=>by
  cases e
  exact k [v] ⟨v,[],rfl,h,rfl⟩⟩
def EZ (n:Nat):Dv->Option (List Dv)
 | .tup ds=>if ds.length=n then some ds else none
 |_=>none
theorem cy (ha:Ev F e ρ ta)(ea:er ta=.lst xs):bb F tg e ρ xs:=by
 obtain⟨τ,p,q⟩:_:=ha.use;refine⟨sP F.K τ,λi=>F.hK i▸yq (p i),λσ G H R s r k=>q σ G H _ s r λx G1 H1 s1 hx=>?_⟩;rw[ea]at hx;obtain⟨l,vs,rfl,h1,h2⟩:=hx;refine⟨l,rfl,⟨vs,s1.s.seq h1⟩,k _ G1 H1 s1 λj G2 H2 sg sh=>⟨λd hd=>?_,λhz=>⟨vs,(sg.trans sh).seq h1,by rw[<- h2.length,hz];exact br _⟩⟩⟩;obtain⟨v,q1,q2⟩:_:=h2.get hd;refine⟨⟨vs,v,(sg.trans sh).seq h1,q1⟩,?_⟩;rintro x H3 ⟨rfl,hx⟩;have:=hx vs ((sg.trans sh).seq h1);rw[q1]at this;cases this;exact⟨G2,.refl sh,q2.mono sg⟩
abbrev ju (lo:Int)(n:Nat):List Dv:=(List.range n).map λk=>di (lo+(k:Nat))
theorem Y9 {K:Frag}(lo:Int)(n:Nat):Aq K G (Ad lo n) (ju lo n):=λk G1 H1 sg sh=>by
 refine⟨λd hd=>?_,λhz=>by show n<=k;rw[hz];simp⟩;rw[l8]at hd;obtain hk|hk:=EM k n
 ·rw[IF hk]at hd;cases hd;refine⟨hk,?_⟩;rintro x H3 ⟨rfl,rfl⟩;exact⟨G1,.refl sh,rfl,rfl⟩
 ·simp_all
theorem gj (hm:F.mg "range"=none)(ha:Ev F a ρ (ti n))(hb : -(2^62)<=n/\n<2^62){p:Pos}(hg:∀i,Gl (F.cx i) "range":=by intro _;rfl)(hs:∀i,starEach [a] (F.cx i).env=[(false,eval a (F.cx i).env)]:=by intro _;rfl):bb F tg (.Call (.Name "range" p) [a] [] pos) ρ (ju 0 n.toNat):=by
 obtain⟨τ,p,q⟩:_:=ha.use;refine⟨OT (dH τ d8),λi=>WQ (hg i) ((F.hm i).symm▸hm) (cm (p i) cR (hs i)) (hs i),λσ G H R s r k=>q σ G H _ s r λx G1 H1 s1 hx=>?_⟩;exact⟨n,by rw[aO hx],hb.1,hb.2,k _ G1 H1 s1 (Y9 0 n.toNat)⟩
theorem F0 (h:js.all (λj=>Nat.blt j n)=true):∀j∈js,j<n:=λj hj=>adv (aee.mp h j hj)
theorem Qh (hx:(F.cx i).xe=cO):PassesOwn (model (F.cx i).prog (F.cx i).w) (F.cx i).A (F.cx i).env (F.cx i).xe:=by rw[hx];exact aeL
theorem xO (hi:vK F tg iter ρ its)(hg:ie F tg js sp)(inv:Nat->En)(m:Nat)(hm:m<=its.length)(h0:inv 0=ρ)(hlen:∀k,js.all (λj=>Nat.blt j (inv k).length)=true)(step:∀k d,k<m->its[k]?=some d->∃dd gS,sp d=some dd/\bt F body (a7 js (dd.map .fz) (inv k)) (.nx gS)/\Fg gS (inv (k+1)))(fin:(m=its.length/\o=.nx (inv m))\/∃d dd t,its[m]?=some d/\sp d=some dd/\bt F body (a7 js (dd.map .fz) (inv m)) (.rt t)/\o=.rt t)(hx:∀i,(F.cx i).xe=cO:=by intro _;rfl)(hs:∀i x,foldedSetIterable iter (F.cx i).env x=pure x:=by intro _ _;rfl):Rn F (.For tg iter body [] pos) ρ o:=by
 obtain⟨wi,p,q⟩:=hi;obtain⟨g,pg,qg⟩:=hg;subst h0;refine⟨vG wi g (uS F body),λi=>DJ (Qh (hx i)) (F.calm i) (p i) (pg i) (O4 i) (hs i),λD σ G0 H0 G H r k=>?_⟩;obtain⟨fp,r⟩:=r;refine q σ G H fp _ r.st.s r.own r.g λJ G1 H1 s1 it=>?_
 have r1:fj F.K G0 H0 G1 H1 (inv 0) σ fp:=⟨r.st.trans s1,r.own.mono s1.g s1.h,r.own.off s1 r.g,r.n,r.d⟩
 have kb:=k.under r1.base;refine⟨λk m' aD H'=>m'=its.length-k/\k<=m/\∃G',RS F.K G1 (less H1 fp) G' H' (inv k) aD,⟨_,rfl,AM _,G1,fp,r1.rebase⟩,?_⟩;rintro n m' aD H' ⟨rfl,hn,G',r'⟩;obtain⟨hW,r'⟩:=r';obtain⟨i1,i2⟩:=it n G' H' r'.st.g r'.st.s;by_cases bD:n<m
 ·have hd:its[n]?=some its[n]:=ab 'Z';obtain⟨j1,j2⟩:=i1 _ hd;refine .inr ⟨j1,λcZ H2=>∃G2,RS F.K G1 (less H1 fp) G2 H2 (inv (n+1)) cZ,λcZ H2 z=>⟨its.length-(n+1),'Z',rfl,bD,z⟩,λx H3 y=>?_⟩;obtain⟨G3,s3,h3⟩:=j2 x H3 y;obtain⟨dd,gS,e1,⟨τ,pb,qb⟩,e2⟩:=step n _ bD hd;refine qg _ dd x aD G3 H3 _ e1 s3.s h3 λvs nK=>⟨τ,pb,qb _ _ G1 (less H1 fp) G3 H3 (RS.a7 (F0 (hlen n)) nK ⟨hW,r'.st.trans s3,r'.own.mono s3.g s3.h,λa ha=>?_,r'.n,r'.d⟩) λσ4 G4 H4 r4=>⟨G4,e2.rs r4⟩⟩
  cases q:G3 a with
  |none=>rfl
  |some u=>
   obtain⟨u',bp⟩:=r'.own.there a ha;have:=s3.n a (r'.g a ha) (by rw[q];exact λz=>nomatch z);rw[bp]at this;cases this
 ·have en:n=m:='O'
  subst en;obtain⟨e,rfl⟩|⟨d,dd,t,hd,e1,⟨τ,pb,qb⟩,rfl⟩:=fin
  ·refine .inl ⟨i2 e,kb aD G' H' ⟨hW,r'⟩⟩
  ·obtain⟨j1,j2⟩:=i1 d hd;refine .inr ⟨j1,λ_ _=>False,λ_ _ z=>z.elim,λx H3 y=>?_⟩;obtain⟨G3,s3,h3⟩:=j2 x H3 y;refine qg d dd x aD G3 H3 _ e1 s3.s h3 λvs nK=>⟨τ,pb,qb _ _ G1 (less H1 fp) G3 H3 (RS.a7 (F0 (hlen n)) nK ⟨hW,r'.st.trans s3,r'.own.mono s3.g s3.h,λa ha=>?_,r'.n,r'.d⟩) kb⟩
   cases q:G3 a with
   |none=>rfl
   |some u=>
    obtain⟨u',bp⟩:=r'.own.there a ha;have:=s3.n a (r'.g a ha) (by rw[q];exact λz=>nomatch z);rw[bp]at this;cases this
theorem dY (hi:vK F tg iter ρ its)(hg:ie F tg js sp)(inv:Nat->En)(h0:inv 0=ρ)(hlen:∀k,js.all (λj=>Nat.blt j (inv k).length)=true)(step:∀k d,its[k]?=some d->∃dd gS,sp d=some dd/\bt F body (a7 js (dd.map .fz) (inv k)) (.nx gS)/\Fg gS (inv (k+1)))(hx:∀i,(F.cx i).xe=cO:=by intro _;rfl)(hs:∀i x,foldedSetIterable iter (F.cx i).env x=pure x:=by intro _ _;rfl):Rn F (.For tg iter body [] pos) ρ (.nx (inv its.length)):=
 xO hi hg inv its.length (br _) h0 hlen (λk d _ h=>step k d h) (.inl ⟨rfl,rfl⟩) hx hs
theorem uq (hi:vK F tg iter ρ its)(hg:ie F tg js sp)(hlen:js.all (λj=>Nat.blt j ρ.length)=true)(ok:Dv->Bool)(step:∀d∈its,∃dd,sp d=some dd/\(ok d=true->∃gS,bt F body (a7 js (dd.map .fz) ρ) (.nx gS)/\Fg gS ρ)/\(ok d=false->bt F body (a7 js (dd.map .fz) ρ) (.rt t)))(good:its.all ok=true->bt F dN ρ o)(bad:its.all ok=false->o=.rt t)(hx:∀i,(F.cx i).xe=cO:=by intro _;rfl)(hs:∀i x,foldedSetIterable iter (F.cx i).env x=pure x:=by intro _ _;rfl):bt F (.For tg iter body [] pos::dN) ρ o:=by
 cases fS:its.all ok with
 |true=>
  refine aq (dY hi hg (λ_=>ρ) rfl (λ_=>hlen) (λk d h=>?_) hx hs) (good fS);obtain⟨dd,e,s1,_⟩:_:=step d (ba h);obtain⟨gS,q1,q2⟩:_:=s1 (aee.mp fS d (ba h));exact⟨dd,gS,e,q1,q2⟩
 |false=>
  rw[bad fS];have:∃m d,m<its.length/\its[m]?=some d/\ok d=false/\∀k e,k<m->its[k]?=some e->ok e=true:=by
   clear step good bad hi
   induction its with
   |nil=>cases fS
   |cons x xs ih=>
    rw[afX]at fS;cases dE:ok x with
    |false=>exact⟨0,x,'Y',rfl,dE,λk e hk=>absurd hk (VT _)⟩
    |true=>
     rw[dE,Bool.true_and]at fS;obtain⟨m,d,h1,h2,h3,h4⟩:_:=ih fS;refine⟨m+1,d,by simpa using h1,h2,h3,λk e hk he=>?_⟩;cases k with
     |zero=>cases he;exact dE
     |succ k=>exact h4 k e 'O' he
  obtain⟨m,d,h1,h2,h3,h4⟩:_:=this;refine rQ (xO hi hg (λ_=>ρ) m (aeF h1) rfl (λ_=>hlen) (λk e hk he=>?_) (.inr ?_) hx hs)
  ·obtain⟨dd,e',s1,_⟩:_:=step e (ba he);obtain⟨gS,q1,q2⟩:=s1 (h4 k e hk he);exact⟨dd,gS,e',q1,q2⟩
  ·obtain⟨dd,e',_,s2⟩:_:=step d (ba h2);exact⟨d,dd,t,h2,e',s2 h3,rfl⟩
theorem XS (inv:Nat->En)(n:Nat)(h0:inv 0=ρ)(turn:∀k,k<n->fI F c (inv k) true/\bt F body (inv k) (.nx (inv (k+1))))(stop:fI F c (inv n) false)(hx:∀i,(F.cx i).xe=cO:=by intro _;rfl):Rn F (.While c body [] pos) ρ (.nx (inv n)):=by
 subst h0;refine⟨ME (uT F c) (uS F body),λi=>Cv (Qh (hx i)) (vi i) (O4 i),λD σ G0 H0 G H r k=>?_⟩;refine⟨λm' aD H'=>∃j G',j<=n/\m'=n-j/\RS F.K G0 H0 G' H' (inv j) aD,⟨_,0,G,AM _,rfl,r⟩,?_⟩;intro m' aD H' z9;obtain⟨j,G',hj,rfl,fp,r'⟩:_:=z9;have key:∀{G1 H1:Hp},Step G' H' G1 H1->RS F.K G0 H0 G1 H1 (inv j) aD:=λ{G1 H1} s1=>⟨fp,r'.st.trans s1,r'.own.mono s1.g s1.h,r'.own.off s1 r'.g,r'.n,r'.d⟩
 by_cases bD:j<n
 ·obtain⟨⟨τ,x,y⟩,⟨bL,x',y'⟩⟩:=turn j bD;refine⟨τ,x,y aD G' H' fp _ r'.st.s r'.own r'.g λG1 H1 s1=>lQ ⟨λcZ H2=>∃G2,RS F.K G0 H0 G2 H2 (inv (j+1)) cZ,λcZ H2 z9=>by obtain⟨G2,z⟩:=z9;exact⟨n-(j+1),'O',j+1,G2,bD,rfl,z⟩,bL,x',?_⟩⟩;exact y' _ aD G0 H0 G1 H1 (key s1) λσ4 G4 H4 r4=>⟨G4,r4⟩
 ·have e:j=n:='O'
  subst e;obtain⟨τ,x,y⟩:=stop;exact⟨τ,x,y aD G' H' fp _ r'.st.s r'.own r'.g λG1 H1 s1=>lO (k aD G1 H1 (key s1))⟩
theorem VH {α:Type}(S : α->En)(Pp : α->Prop)(p : α->Bool)(μ : α->Nat)(hc:∀a,Pp a->fI F c (S a) (p a))(hb:∀a,Pp a->p a=true->∃a',Pp a'/\μ a' < μ a/\bt F body (S a) (.nx (S a')))(a0 : α)(h0:Pp a0)(hx:∀i,(F.cx i).xe=cO:=by intro _;rfl):∃a',Pp a'/\p a'=false/\Rn F (.While c body [] pos) (S a0) (.nx (S a')):=by
 have:∀(m) (a),μ a<=m->Pp a->∃(n:Nat) (f:Nat->α),f 0=a/\(∀k,k<n->Pp (f k)/\p (f k)=true/\bt F body (S (f k)) (.nx (S (f (k+1)))))/\Pp (f n)/\p (f n)=false:=by
  intro m
  induction m with
  |zero=>
   intro a hm ha;cases hp:p a with
   |false=>exact⟨0,λ_=>a,rfl,λk hk=>absurd hk (VT _),ha,hp⟩
   |true=>
    obtain⟨a',_,h2,_⟩:_:=hb a ha hp;omega
  |succ m ih=>
   intro a hm ha;cases hp:p a with
   |false=>exact⟨0,λ_=>a,rfl,λk hk=>absurd hk (VT _),ha,hp⟩
   |true=>
    obtain⟨a',h1,h2,h3⟩:_:=hb a ha hp;obtain⟨n,f,f0,f1,f2,f3⟩:_:=ih a' 'O' h1;refine⟨n+1,λk=>match k with|0=>a|k+1=>f k,rfl,λk hk=>?_,f2,f3⟩;cases k with
    |zero=>exact⟨ha,hp,by show bt F body (S a) (.nx (S (f 0)));rw[f0];exact h3⟩
    |succ k=>exact f1 k 'O'
 obtain⟨n,f,f0,f1,f2,f3⟩:_:=this (μ a0) a0 (br _) h0;refine⟨f n,f2,f3,XS (λk=>S (f k)) n (by rw[f0]) (λk hk=>?_) (by have:=hc _ f2;rw[f3]at this;exact this) hx⟩;obtain⟨g1,g2,g3⟩:=f1 k hk;exact⟨by have:=hc _ g1;rw[g2]at this;exact this,g3⟩
structure acU where
 C:adV
 s:adX
 H:Hp
 ex:List adV
 pn:List (adV×Obj)
def cz (F:aS ι)(own:List Str)(fr:List Nat)(sc:Scope)(cl : ι->List (Str×adV)):aS (ι×acU) where
 cx i:=dI (F.cx i.1) own fr sc (cl i.1) i.2.C i.2.s i.2.H i.2.ex i.2.pn
 P:=F.P
 w:=F.w
 K:=F.K
 mg:=F.mg
 base:=F.base
 room:=F.room
 hP i:=F.hP i.1
 hw i:=F.hw i.1
 hK i:=F.hK i.1
 hm i:=F.hm i.1
 hb i:=F.hb i.1
 hr i:=F.hr i.1
 calm i:=F.calm i.1
def cH (own:List Str)(fr:List Nat)(ρ:En):En:=own.map (λ_=>none)++fr.map λj=>(ρ[j]?).join
theorem MY {K:Frag}(r:aX K G ρ σ):aX K G (cH own fr ρ) (mL own fr σ):=λi d h=>by
 unfold cH at h;unfold mL;by_cases hi:i<own.length
 ·grind
 ·rw[wb 'J',l8,aa]at h;rw[wb 'J',l8,aa];cases q:fr[i-own.length]? with
  |none=>rw[q]at h;cases h
  |some j=>
   rw[q]at h;have hj : ρ[j]?=some (some (.fz d)):=by
    grind
   obtain⟨v,h1,h2⟩:_:=r j d hj
   simp_all
def El {κ:Type}(F:aS κ)(ifs:List Expr)(ρ:En)(b:Bool):Prop:=∃tt:TT,(∀i (pins:List (adV×Obj)) (s1:adX) (ao:St) (H1:Hp) (Q:Bool->Hp->Prop),Inv (F.cx i) pins ao H1 s1->tt ao H1 Q ->
   wpAny (model (F.cx i).prog (F.cx i).w) (F.cx i).A (mK ifs (F.cx i).env) (TP (F.cx i) pins ao Q) cO s1)/\∀σ G H Q,aj G H->aX F.K G ρ σ->(∀G' H',Step G H G' H'->Q b H')->tt σ H Q
theorem sD:El F [] ρ true:=⟨K0,λi pins s1 ao H1 Q I h=>OZ pins s1 ao H1 Q I h,λσ G H Q s r k=>k G H (.refl s)⟩
theorem jj (h:Et F c ρ p)(hx:∀i,(F.cx i).xe=cO:=by intro _;rfl):El F [c] ρ p:=by obtain⟨τ,x,y⟩:=h;exact⟨τ,λi pins s1 ao H1 Q I h=>O1 (x i) (hx i) pins s1 ao H1 Q I h,y⟩
def uL {κ:Type}(F:aS κ)(ifs:List Expr):TT:=λσ H Q=>∃tt:TT,(∀i (pins:List (adV×Obj)) (s1:adX) (ao:St) (H1:Hp) (Q:Bool->Hp->Prop),Inv (F.cx i) pins ao H1 s1->tt ao H1 Q ->
   wpAny (model (F.cx i).prog (F.cx i).w) (F.cx i).A (mK ifs (F.cx i).env) (TP (F.cx i) pins ao Q) cO s1)/\tt σ H Q
def Ar (F:aS ι)(own:List Str)(fr:List Nat)(sc:Scope)(cl : ι->List (Str×adV))(elt tg iter:Expr)(ifs:List Expr)(τ:TE):Prop:=∃wi g tt te,τ=Ai wi g tt te own fr/\(∀i,PI (F.cx i) tg iter wi)/\(∀i,PG ((cz F own fr sc cl).cx i) tg g) /\
 (∀i (pins:List (adV×Obj)) (s1:adX) (ao:St) (H1:Hp) (Q:Bool->Hp->Prop),Inv ((cz F own fr sc cl).cx i) pins ao H1 s1->tt ao H1 Q->wpAny (model ((cz F own fr sc cl).cx i).prog ((cz F own fr sc cl).cx i).w) ((cz F own fr sc cl).cx i).A (mK ifs ((cz F own fr sc cl).cx i).env) (TP ((cz F own fr sc cl).cx i) pins ao Q) cO s1) /\
 ∀i,PE ((cz F own fr sc cl).cx i) elt te
def ig (F:aS ι)(own:List Str)(fr:List Nat)(sc:Scope)(cl : ι->List (Str×adV))(elt tg iter:Expr)(ifs:List Expr)(ρ:En)(t:Tr):Prop:=∃τ,Ar F own fr sc cl elt tg iter ifs τ/\∀σ G H Q,aj G H->aX F.K G ρ σ->Kv F.K G H t Q->τ σ H Q
theorem Rb (hi:bb F tg iter ρ its)(hg:ie (cz F own fr sc cl) tg js sp)(gT:∀j∈js,j<own.length)(p:Nat->Bool)(f:Nat->Tr)(hz:its.length<sizeLine)(step:∀k d,its[k]?=some d->∃dd,sp d=some dd/\El (cz F own fr sc cl) ifs (a7 js (dd.map .fz) (cH own fr ρ)) (p k)/\(p k=true->Ev (cz F own fr sc cl) elt (a7 js (dd.map .fz) (cH own fr ρ)) (f k)))(jO:∀dd:List Dv,jf js (a7 js (dd.map .fz) (cH own fr ρ))=cH own fr ρ):ig F own fr sc cl elt tg iter ifs ρ (.ow (((List.range its.length).filter p).map f)):=by
 obtain⟨wi,pi,qi⟩:_:=hi;obtain⟨g,pg,qg⟩:_:=hg;refine⟨_,⟨wi,g,uL (cz F own fr sc cl) ifs,uE (cz F own fr sc cl) elt,rfl,pi,pg,λi pins s1 ao H1 Q I h=>by
   obtain⟨tt,h1,h2⟩:_:=h;exact h1 i pins s1 ao H1 Q I h2,λi=>dR i⟩,λσ G H Q s r k=>?_⟩
 refine qi σ G H _ s r λJ G1 H1 s1 it acc dS=>?_
 have k1:=k.step s1;have MZ:∀{G':Hp} {js':List Nat} {ρ':En} {aD:St},aX F.K G' ρ' aD->aX F.K G' (jf js' ρ') aD:=by
  intro G' js'
  induction js' with
  |nil=>intro ρ' aD z;exact z
  |cons j js' ih=>
   intro ρ' aD z;refine ih (ρ':=ρ'.set j none) λi d hd=>?_
   by_cases q:j=i
   ·subst q;rw[afQ]at hd;simp at hd
   ·rw[EU q]at hd;exact z i d hd
 refine⟨λi m ys ao H2=>m=its.length-i/\i<=its.length/\ao.length=own.length+fr.length/\H2 acc=some (.lst ys)/\∃G2 fq,Step G1 H1 G2 H2/\aV F.K G2 H2 (((List.range i).filter p).map f) ys fq/\Nw H1 G2 (acc::fq)/\aX F.K G2 (cH own fr ρ) ao,
  ⟨_,rfl,AM _,by simp[mL],bQ,G1,[],.jR s1.s dS,⟨rfl,rfl⟩,⟨λa ha=>by rw[BB.mp ha];exact dS,λa ha=>by rw[BB.mp ha];exact s1.s.free dS,'Y'⟩,(MY r).mono s1.g⟩,?_⟩
 rintro i m ys ao H2 ⟨rfl,hi,tI,kR,G2,fq,s2,o2,w2,r2⟩;have hlen:ys.length<sizeLine:=by
  rw[<- o2.length,aa];have:=WA p (List.range i);rw[vc]at this;lia
 refine⟨kR,hlen,?_⟩;obtain⟨i1,i2⟩:=it i G2 H2 s2.g s2.s;by_cases bD:i<its.length
 ·have hd:=ab bD;obtain⟨j1,j2⟩:=i1 _ hd;obtain⟨dd,e1,el,ev⟩:=step i _ hd;refine .inr ⟨j1,λzs cZ H3=>cZ.length=own.length+fr.length/\H3 acc=some (.lst zs)/\∃G3 fq,Step G1 H1 G3 H3/\aV F.K G3 H3 (((List.range (i+1)).filter p).map f) zs fq/\Nw H1 G3 (acc::fq)/\aX F.K G3 (cH own fr ρ) cZ,
   λzs cZ H3 z=>⟨its.length-(i+1),'O',rfl,bD,z⟩,λx H3 y=>?_⟩
  obtain⟨G3,s3,h3⟩:_:=j2 x H3 y;refine qg _ dd x ao G3 H3 _ e1 s3.s h3 λvs nK=>?_
  have hjl:∀j∈js,j<ao.length:=λj hj=>by have:=gT j hj;lia
  have rr:=aX.a7 hjl nK (r2.mono s3.g);have vj:∀{Ga Ha Gb Hb:Hp} {fs:List adV},Step Ga Ha Gb Hb->(∀a∈fs,Ga a=none)->(∀a∈fs,∃o,Ha a=some o)->∀a∈fs,Gb a=none:=λ{Ga Ha Gb Hb fs} st h1 h2 a ha=>by
   cases q:Gb a with
   |none=>rfl
   |some u=>
    obtain⟨u',bp⟩:=h2 a ha;have:=st.n a (h1 a ha) (by rw[q];exact λz=>nomatch z);rw[bp]at this;cases this
  have qL:∀a∈acc::fq,∃o,H2 a=some o:=λa ha=>(ff.mp ha).elim (λz=>⟨_,z▸kR⟩) (o2.there a)
  have er:(List.range (i+1)).filter p=(List.range i).filter p++if p i=true then [i]else []:=by
   rw[List.range_succ,aej];congr 1;simp[aba]
  obtain⟨tt,pt,qt⟩:_:=el;refine⟨tt,pt,qt _ G3 H3 _ s3.s rr λG5 H5 s5=>?_⟩;have gU:=s3.trans s5;cases hp:p i with
  |false=>
   refine lO ⟨by rw[ud];exact tI,gU.h _ _ kR,G5,fq,s2.trans gU,?_,⟨w2.n,vj gU w2.g qL,w2.d⟩,?_⟩
   ·rw[er,hp,rf 'Q',AS];exact o2.mono gU.g gU.h
   ·have:=MZ (js':=js) (rr.mono s5.g);rwa [jO dd]at this
  |true=>
   obtain⟨te,pe,qe⟩:_:=ev hp;refine lQ ⟨te,pe,qe _ G5 H5 _ s5.s (rr.mono s5.g) λv G6 H6 f6 s6 o6 w6=>?_⟩;have iI:=gU.trans s6;have GY:=iI.h _ _ kR;have qM:∀a∈f6,a∉acc::fq:=λa ha hb=>by
    obtain⟨u,hu⟩:=qL a hb;have:=gU.h _ _ hu;rw[w6.n a ha]at this;cases this
   have qN:=AE.mp w2.d;have g6:=vj iI w2.g qL;refine⟨GY,by rw[ud];exact tI,bQ,G6,fq++(f6++[]),⟨(s2.trans iI).g,λb u hb=>?_,λb u hb=>?_,(s2.trans iI).n⟩,?_,⟨λa ha=>?_,λa ha=>?_,?_⟩,?_⟩
   ·rw[aQ λz=>by subst z;rw[dS]at hb;cases hb];exact(s2.trans iI).h b u hb
   ·rw[aQ λz=>by subst z;rw[g6 _ (.head _)]at hb;cases hb];exact s6.s b u hb
   ·rw[er,hp,uu rfl,BN];refine aV.append ((o2.mono iI.g iI.h).frame qN.1) ⟨v,[],f6,[],rfl,rfl,o6.frame λz=>qM _ z (.head _),rfl,rfl⟩
   ·rw[AS]at ha;obtain z|z:=ff.mp ha
    ·exact w2.n a (z▸.head _)
    ·obtain z|z:=qr.mp z
     ·exact w2.n a (.tail _ z)
     ·exact(s2.trans gU).h.free (w6.n a z)
   ·rw[AS]at ha;obtain z|z:=ff.mp ha
    ·exact g6 a (z▸.head _)
    ·obtain z|z:=qr.mp z
     ·exact g6 a (.tail _ z)
     ·exact w6.g a z
   ·rw[AS];refine AE.mpr ⟨λz=>?_,ze.mpr ⟨qN.2,w6.d,λa ha b hb z=>?_⟩⟩
    ·obtain z|z:=qr.mp z
     ·exact qN.1 z
     ·exact qM _ z (.head _)
    ·subst z;exact qM a hb (.tail _ ha)
   ·have:=MZ (js':=js) (rr.mono (s5.trans s6).g);rwa [jO dd]at this
 ·have e:i=its.length:='O'
  subst e;refine .inl ⟨i2 rfl,k1 (.ref acc) G2 H2 (acc::fq) s2 ⟨acc,ys,fq,rfl,kR,o2,rfl⟩ w2⟩
theorem zr (L:∀i,iR (F.cx i) sc (cl i) fr)(hi:bb F tg iter ρ its)(hg:ie (cz F own fr sc cl) tg js sp)(gT:∀j∈js,j<own.length)(p:Nat->Bool)(f:Nat->Tr)(hz:its.length<sizeLine)(step:∀k d,its[k]?=some d->∃dd,sp d=some dd/\El (cz F own fr sc cl) ifs (a7 js (dd.map .fz) (cH own fr ρ)) (p k)/\(p k=true->Ev (cz F own fr sc cl) elt (a7 js (dd.map .fz) (cH own fr ρ)) (f k)))(jO:∀dd:List Dv,jf js (a7 js (dd.map .fz) (cH own fr ρ))=cH own fr ρ)(hs:∀i x,foldedSetIterable iter (F.cx i).env x=pure x:=by intro _ _;rfl):
  Ev F (.ListComp elt [⟨tg,iter,ifs,0⟩] sc pos) ρ (.ow (((List.range its.length).filter p).map f)):=by
 obtain⟨τ,⟨wi,g,tt,te,rfl,h1,h2,h3,h4⟩,h5⟩:_:=Rb hi hg gT p f hz step jO;exact⟨_,λi=>OX (L i) (F.calm i) (h1 i) (λC s H ex pn=>h2 (i,⟨C,s,H,ex,pn⟩)) (λC s H ex pn=>h3 (i,⟨C,s,H,ex,pn⟩)) (λC s H ex pn=>h4 (i,⟨C,s,H,ex,pn⟩)) (hs i),h5⟩
end
structure IxD (k:Nat) (qual:Str) (sc:Scope) (f:adV) where
 aN:vn
 A:Around
 outer:List Env
 s:adX
 H:Hp
 E:XK
 hr:dv k (A.deeper (envOfC qual sc s.heap.objs.size f aN))
def jv (P:agc)(w:agd)(K:Frag)(mg:Str->Option vn)(base:Heap)(N:List Str)(qual:Str)(sc:Scope)(f:adV)(k:Nat):aS (IxD k qual sc f) where
 cx i:=(lN bx P w K mg base N qual sc f i.aN i.A i.outer i.s i.H i.E).vY
 P:=P
 w:=w
 K:=K
 mg:=mg
 base:=base
 room:=k
 hP _:=rfl
 hw _:=rfl
 hK _:=rfl
 hm _:=rfl
 hb _:=rfl
 hr i:=i.hr
 calm _:=rfl
def GZ (N:List Str)(dd:List Dv):En:=dd.map (λd=>some (.fz d))++List.replicate (N.length-dd.length) none
theorem J8 {K:Frag}:∀n,bw K G H (List.replicate n none) (List.replicate n none) []
 |0=>⟨rfl,rfl⟩
 |n+1=>⟨none,List.replicate n none,rfl,J8 n⟩
theorem JC {K:Frag}:∀{dd:List Dv} {vs:List V},aH K G dd vs->bw K G H (dd.map (λd=>some (.fz d))++List.replicate n none) (vs.map some++List.replicate n none) []
 |[],_,h=>by rw[h];exact J8 n
 |_::_,_,z9=>by obtain⟨x,r,h1,h2,h3⟩:=z9;subst h1;exact⟨x,_,[],[],rfl,rfl,⟨rfl,h2⟩,JC h3⟩
theorem E9 {K:Frag}{st:age}(Fd:fE K x qual st dV f fd)(S:aY N ps (az st))(hl:∀dd t,R dd t->dd.length=ps.length)(hb:∀dd t,R dd t->∃o,(o=.rt t\/(t=tn/\∃ρ',o=.nx ρ'))/\bt (jv P w K mg base N qual (az st) f k) (dB st) (GZ N dd) o):bS P w K mg base bx (k+1) f fd ps (spT K R):=by
 refine Fd.ok S (λvs H Q E z9=>by obtain⟨G,dd,t,s,h1,h2,h3⟩:_:=z9;rw[<- h1.length];exact hl dd t h2) λaN A outer s H vs Q E hr h=>?_
 obtain⟨G,dd,t,s',h1,h2,h3⟩:_:=h;obtain⟨o,ho,τ,x,y⟩:_:=hb dd t h2;refine⟨τ,x ⟨aN,A,outer,s,H,E,hr⟩,y _ (start N vs) G H G H ⟨[],.refl s',?_,λ_ z=>(nomatch z),λ_ z=>(nomatch z),.nil⟩ ?_⟩
 ·unfold start GZ;rw[<- h1.length];exact JC h1
 ·obtain rfl|⟨rfl,ρ',rfl⟩:=ho
  ·exact λv G1 H1 fq s1 o1 w1=>h3 v G1 H1 fq s1 o1 w1
  ·exact λσ G1 H1 z9=>by obtain⟨fp,r⟩:=z9;exact h3 .aW G1 H1 [] r.st ⟨rfl,rfl,rfl⟩ .nil
def Rc (K:Frag)(l1 l2:adV)(xs ys:List V):It:=
 ⟨λi H=>aM K H l1 xs/\aM K H l2 ys/\i<min xs.length ys.length,λi H x H'=>∃T vx vy,H T=none/\xs[i]?=some vx/\ys[i]?=some vy/\x=.ref T/\H'=upd H T (.tup [vx,vy]),λi H=>aM K H l1 xs/\aM K H l2 ys/\i=min xs.length ys.length⟩
def Rf (K:Frag)(l:adV)(xs:List V):It:=
 ⟨λi H=>aM K H l xs/\i<xs.length,λi H x H'=>∃T v,H T=none/\xs[i]?=some v/\x=.ref T/\H'=upd H T (.tup [.int (i:Nat),v]),λi H=>aM K H l xs/\i=xs.length⟩
section
variable {σ:St}
theorem Inv.C9 {fs:List adV}(I:Inv X pins σ H s)(k:∀b o,b∉fs->s.heap.get? b=some o->h'.get? b=some o)(hf:∀b∈fs,jr X pins H b):Inv X pins σ H {s with heap:=h',toks:=t'}:=by
 have Hd:∀b u,H b=some u->b∉fs:=λb u e z=>by rw[(hf b z).1]at e;cases e
 refine I.step (g':=s.gens) (d':=s.drawn) (λb hb=>?_) (λb o _ _ hc e _=>k b o hc e) (λb o _ _ hc e _=>⟨o.slots,k b o hc e⟩) (λ_ _ _ _ n=>n)
  (λb o hc e=>⟨o,k b o hc e⟩) (λ_ _ e=>e) (λ_ _ _ e=>e) (λb ps e=>⟨#[],by rw[e];simp⟩) (λm hm=>?_) (λb u e=>?_) I.bare
 ·obtain⟨f0,f1,f2,f3,f4,f5⟩:=hf b hb;exact⟨f3,f1,f4,f5⟩
 ·obtain⟨o,es,ep,ho,r⟩:=hm;exact⟨o,es,ep,k _ o (λz=>(hf _ z).2.1 rfl) ho,r⟩
 ·refine(I.aL b u e).ni (λc v hc q=>k c v ?_ q) (λ_ q=>q) λ_ _ q=>q
  obtain z|z:=hc
  ·rw[z];exact Hd b u e
  ·exact Hd c _ z
theorem Inv.Lf {fs:List adV}{T:adV}(I:Inv X pins σ H s)(k:∀b o,b∉fs->s.heap.get? b=some o->h'.get? b=some o)(hf:∀b∈fs,jr X pins H b)(hT:s.heap.objs.size<=T)(new:iw X.prog X.w (upd H T (.tup vs)) h' T (.tup vs)):Inv X pins σ (upd H T (.tup vs)) {s with heap:=h',toks:=t'}:=by
 have hn:=I.aL.fresh hT;have Hd:∀b u,H b=some u->b∉fs:=λb u e z=>by rw[(hf b z).1]at e;cases e
 have ne:∀b o,s.heap.get? b=some o->b≠T:=λb o e z=>by subst z;exact absurd (zd (nt e) hT) (aep _)
 refine I.step (g':=s.gens) (d':=s.drawn) (λb hb=>?_) (λb o _ _ hc e _=>k b o hc e) (λb o _ _ hc e _=>⟨o.slots,k b o hc e⟩) (λb o _ e n=>by rw[aQ (ne b o e)];exact n)
  (λb o hc e=>⟨o,k b o hc e⟩) (λ_ _ e=>by rw[aQ (jZ e hn)];exact e) (λ_ _ _ e=>by rw[aQ (jZ e hn)];exact e) (λb ps e=>⟨#[],by rw[aQ (jZ e hn),e];simp⟩) (λm hm=>?_) (λb u e=>?_) I.bare
 ·obtain⟨f0,f1,f2,f3,f4,f5⟩:=hf b hb
  grind
 ·obtain⟨o,es,ep,ho,r⟩:=hm;exact⟨o,es,ep,k _ o (λz=>(hf _ z).2.1 rfl) ho,r⟩
 ·by_cases hb:b=T
  ·subst hb;rw[bQ]at e;cases e;exact new
  ·rw[aQ hb]at e;refine(I.aL b u e).ni (λc v hc q=>k c v ?_ q) (λc q=>by rw[aQ (jZ q hn)];exact q) λc xs q=>by rw[aQ (jZ q hn)];exact q
   grind
end
theorem XT {K:Frag}{TI TO:adV}(D:ZipApart z TI TO i1 i2 l1 l2):
  Turn P w K (.Tuple elts kk pos) (Rc K l1 l2 xs ys) [z,TI,TO,i1,i2] z (λi h=>IsZip h z TI TO .none/\IsPair h TI (.ref i1) (.ref i2)/\(∃a b,IsPair h TO a b)/\h.IsListIter i1 l1 i/\h.IsListIter i2 l2 i) where
 mem:='Y'
 obj:=by
  rintro i h ⟨h1,h2,⟨a,c,h3⟩,⟨o1,h4,_,h5⟩,⟨o2,h6,_,h7⟩⟩ b hb;simp[ff,af2,or_false]at hb;obtain rfl|rfl|rfl|rfl|rfl:=hb
  ·exact⟨_,h1,λv z=>by cases z⟩
  ·exact⟨_,h2,λv z=>by cases z⟩
  ·exact⟨_,h3,λv z=>by cases z⟩
  ·exact⟨_,h4,λv z=>by rw[h5]at z;cases z⟩
  ·exact⟨_,h6,λv z=>by rw[h7]at z;cases z⟩
 keep:=by
  rintro i h h' ⟨h1,h2,⟨a,c,h3⟩,h4,h5⟩ k;exact⟨k _ 'Y' _ h1,k _ 'Y' _ h2,⟨a,c,k _ 'Y' _ h3⟩,h4.at λo e=>k _ 'Y' o e,h5.at λo e=>k _ 'Y' o e⟩
 item:=by
  intro X hP hw hK hc i pins s σ H E I hf st hg;subst hP hw hK;obtain⟨gV,wz,bD⟩:=hg;obtain⟨jS,kS,p1,wA⟩:_:=I.list gV;obtain⟨iz,wB,p2,Rh⟩:_:=I.list wz;have e1:=kS.length;have e2:=wB.length;have W:=WalksT.zip2 (prog:=X.prog) (w:=X.w) (A:=X.A) (I.ok.hd hc) z TI TO i1 i2 l1 l2 D jS.toArray iz.toArray;refine W.item i s _ _ (by simp;lia) ⟨st.1,st.2.1,st.2.2.1,st.2.2.2.1,st.2.2.2.2,p1.isList,p2.isList⟩ λT vals h' tk He qO F5 vL hk=>⟨.ref T,rfl,W.go elts kk pos i T _ _ _ vL λh'' ou vM=>?_⟩
  obtain⟨x,y,hx,hy,rfl⟩:_:=He;have wC:xs[i]?=some (xs[i]'(by omega)):=ab _;have Ri:ys[i]?=some (ys[i]'(by omega)):=ab _;obtain⟨u,hu,ru⟩:_:=kS.get wC;obtain⟨u',bp,ru'⟩:_:=wB.get Ri;have ex:x=u:=by
   have:jS[i]?=some x:=by simpa using hx
   rw[hu]at this;exact(FF this).symm
  have ey:y=u':=by
   have:iz[i]?=some y:=by simpa using hy
   rw[bp]at this;exact(FF this).symm
  subst ex ey;have sub:∀b∈[z,TO,i1,i2],b∈[z,TI,TO,i1,i2]:=λb hb=>by
   simp[ff,af2,or_false]at hb ⊢;obtain rfl|rfl|rfl|rfl:=hb<;>simp
  have Hf:=F5.at λo e=>vM T o (W.apart i T _ vL) e
  refine⟨.ref T,upd H T (.tup [xs[i]'(by omega),ys[i]'(by omega)]),I.Lf (λb o hb e=>vM b o hb (hk b o hb e)) (λb hb=>hf b (sub b hb)) qO ⟨by show 2<=sizeLine;decide,[x,y],.cons ru (.cons ru' .nil),Hf⟩,rfl,
   ⟨T,_,_,I.aL.fresh qO,wC,Ri,rfl,rfl⟩,⟨ou.1,ou.2.1,ou.2.2.1,ou.2.2.2.1,ou.2.2.2.2.1⟩,λb hb=>?_⟩
  obtain⟨o,eo,_⟩:∃o,s.heap.get? b=some o/\True:=by
   obtain⟨g1,g2,⟨a,c,g3⟩,⟨o1,g4,_⟩,⟨o2,g6,_⟩⟩:_:=st;simp[ff,af2,or_false]at hb;obtain rfl|rfl|rfl|rfl|rfl:=hb
   ·exact⟨_,g1,trivial⟩
   ·exact⟨_,g2,trivial⟩
   ·exact⟨_,g3,trivial⟩
   ·exact⟨_,g4,trivial⟩
   ·exact⟨_,g6,trivial⟩
  rw[aQ (AN (zd (nt eo) qO))];exact(hf b hb).1
 done:=by
  intro X hP hw hK hc i pins s σ H E I hf st hg;subst hP hw hK;obtain⟨gV,wz,rfl⟩:=hg;obtain⟨jS,kS,p1,wA⟩:=I.list gV;obtain⟨iz,wB,p2,Rh⟩:=I.list wz;have e1:=kS.length;have e2:=wB.length;have W:=WalksT.zip2 (prog:=X.prog) (w:=X.w) (I.ok.hd hc) z TI TO i1 i2 l1 l2 D jS.toArray iz.toArray;have en:min jS.toArray.size iz.toArray.size=min xs.length ys.length:=by simp[Cn];lia
  refine W.done s _ _ (by rw[en];exact⟨st.1,st.2.1,st.2.2.1,st.2.2.2.1,st.2.2.2.2,p1.isList,p2.isList⟩) λh' tk hk=>⟨rfl,I.C9 hk λb hb=>hf b ?_⟩
  simp[ff,or_false]at hb ⊢;obtain rfl|rfl|rfl|rfl:=hb<;>simp
 self:=λA i s Q E st h=>wpAny_pyIter_zip st.1 h
theorem W5 {K:Frag}(Rj:e≠it)(hle:l≠e)(qP:l≠it):
  Turn P w K (.Tuple elts kk pos) (Rf K l xs) [e,it] e (λi h=>(∃old,IsEnum h e it i old)/\h.IsListIter it l i) where
 mem:='Y'
 obj:=by
  rintro i h ⟨⟨old,h1⟩,⟨o1,h4,_,h5⟩⟩ b hb
  grind
 keep:=by
  rintro i h h' ⟨⟨old,h1⟩,h4⟩ k;exact⟨⟨old,k _ 'Y' _ h1⟩,h4.at λo e=>k _ 'Y' o e⟩
 item:=by
  intro X hP hw hK hc i pins s σ H E I hf st hg;subst hP hw hK;obtain⟨gV,bD⟩:=hg;obtain⟨jS,kS,p1,wA⟩:_:=I.list gV;have e1:=kS.length;have W:=WalksT.enumerate (prog:=X.prog) (w:=X.w) (A:=X.A) (I.ok.hd hc) e it l Rj hle qP jS.toArray;refine W.item i s _ _ 'J' ⟨st.1,st.2,p1.isList⟩ λT vals h' tk He qO F5 vL hk=>⟨.ref T,rfl,W.go elts kk pos i T _ _ _ vL λh'' ou vM=>?_⟩
  obtain⟨t,x,hx,rfl⟩:=He;have wC:xs[i]?=some (xs[i]'(by omega)):=ab _;obtain⟨u,hu,ru⟩:_:=kS.get wC;have ex:x=u:=by
   simp_all
  subst ex;have Hf:=F5.at λo e=>vM T o (W.apart i T _ vL) e
  refine⟨.ref T,upd H T (.tup [.int (i),xs[i]'(by omega)]),I.Lf (λb o hb e=>vM b o hb (hk b o hb e)) hf qO ⟨by show 2<=sizeLine;decide,[.int (i) t,x],.cons ⟨t,rfl⟩ (.cons ru .nil),Hf⟩,rfl,
   ⟨T,_,I.aL.fresh qO,wC,rfl,rfl⟩,⟨ou.1,ou.2.1⟩,λb hb=>?_⟩
  obtain⟨o,eo,_⟩:∃o,s.heap.get? b=some o/\True:=by
   obtain⟨⟨old,g1⟩,⟨o1,g4,_⟩⟩:_:=st
   grind
  rw[aQ (AN (zd (nt eo) qO))];exact(hf b hb).1
 done:=by
  intro X hP hw hK hc i pins s σ H E I hf st hg;subst hP hw hK;obtain⟨gV,rfl⟩:=hg;obtain⟨jS,kS,p1,wA⟩:=I.list gV;have e1:=kS.length;have W:=WalksT.enumerate (prog:=X.prog) (w:=X.w) (I.ok.hd hc) e it l Rj hle qP jS.toArray;have en:jS.toArray.size=xs.length:='J'
  exact W.done s _ _ (by rw[en];exact⟨st.1,st.2,p1.isList⟩) λh' tk hk=>⟨rfl,I.C9 hk hf⟩
 self:=λA i s Q E st h=>by
  obtain⟨⟨old,h1⟩,_⟩:_:=st;exact wpAny_pyIter_enum h1 h
def F6 (K:Frag)(ta:TA):TI:=λσ H R=>ta σ H λvs H1=>∃l1 l2 xs ys,vs=[.ref l1,.ref l2]/\aM K H1 l1 xs/\aM K H1 l2 ys/\R (Rc K l1 l2 xs ys) H1
def F7 (K:Frag)(ta:TA):TI:=λσ H R=>ta σ H λvs H1=>∃l xs,vs=[.ref l]/\aM K H1 l xs/\R (Rf K l xs) H1
section
variable {elts:List Expr}{kk:Nat}{tp:Pos}
theorem M0 {p pos:Pos}(hg:Gl X "zip")(hm:X.mg "zip"=none)(ha:PA X [a,b] ta)(hs:starEach [a,b] X.env=[(false,eval a X.env),(false,eval b X.env)]:=by rfl)(dq:starEach [b] X.env=[(false,eval b X.env)]:=by rfl):
  PI X (.Tuple elts kk tp) (.Call (.Name "zip" p) [a,b] [] pos) (F6 X.K ta):=by
 intro pins s σ H R I h;refine Call_ (mU I hg hm aa2 (LH (aE (ha pos pins s σ H _ I h) λus s1 z9=>?_) 'J' (by rw[dq];rfl)));obtain⟨vs,H1,I1,r1,q1⟩:=z9;obtain⟨l1,l2,xs,ys,rfl,gV,wz,q⟩:_:=q1;obtain⟨u1,u2,rfl,c1,c2⟩:=r1.two;cases c1;cases c2;obtain⟨jS,kS,p1,wA⟩:_:=I1.list gV;obtain⟨iz,wB,p2,Rh⟩:_:=I1.list wz;have As:l1<s1.heap.objs.size:=by obtain⟨o,n,e,_⟩:=p1;exact nt e
 have wq:l2<s1.heap.objs.size:=by obtain⟨o,n,e,_⟩:=p2;exact nt e
 refine call_zip_2 p1.isList p2.isList λh' hz hTI hTO hi1 hi2 cT hk=>wpAny_pyIter_zip hz ?_
 have I2:=I1.kept (t':=s1.toks) hk;refine⟨s1.heap.objs.size+4,[s1.heap.objs.size+4,s1.heap.objs.size+2,s1.heap.objs.size+3,s1.heap.objs.size,s1.heap.objs.size+1],_,_,H1,rfl,I2,XT (PySem.W.ktu_apart _ _ _ As wq),⟨hz,hTI,⟨_,_,hTO⟩,hi1,hi2⟩,λb hb=>?_,q⟩;have nL:s1.heap.objs.size<=b:=by
  grind
 obtain⟨f0,f1,f2,f3,f4,f5⟩:_:=I1.vF (H':=H1) nL (I1.aL.fresh nL);exact⟨f0,f1,f2,f3,f4,f5⟩
theorem Lg (hg:Gl X "enumerate")(hm:X.mg "enumerate"=none)(ha:PA X [a] ta)(hs:starEach [a] X.env=[(false,eval a X.env)]:=by rfl):
  PI X (.Tuple elts kk tp) (.Call (.Name "enumerate" p) [a] [] pos) (F7 X.K ta):=by
 intro pins s σ H R I h;refine Call_ (mU I hg hm Vk (LH (aE (ha pos pins s σ H _ I h) λus s1 z9=>?_) hs rfl));obtain⟨vs,H1,I1,r1,q1⟩:=z9;obtain⟨l,xs,rfl,gV,q⟩:_:=q1;obtain⟨u1,rfl,c1⟩:=r1.one;cases c1;obtain⟨jS,kS,p1,wA⟩:_:=I1.list gV;have As:l<s1.heap.objs.size:=by obtain⟨o,n,e,_⟩:_:=p1;exact nt e
 refine call_enumerate_list p1.isList λh' hE hI cT hk=>wpAny_pyIter_enum hE ?_
 have I2:=I1.kept (t':=s1.toks) hk;refine⟨s1.heap.objs.size+1,[s1.heap.objs.size+1,s1.heap.objs.size],_,_,H1,rfl,I2,W5 (Nat.succ_ne_self _) (PySem.W.ktu_ne 1 As) (AN As),⟨⟨_,hE⟩,hI⟩,λb hb=>?_,q⟩;have nL:s1.heap.objs.size<=b:=by
  grind
 obtain⟨f0,f1,f2,f3,f4,f5⟩:_:=I1.vF (H':=H1) nL (I1.aL.fresh nL);exact⟨f0,f1,f2,f3,f4,f5⟩
end
section
variable {F:aS ι}{elts:List Expr}{kk:Nat}{tp pos:Pos}
def iV (xs ys:List Dv):List Dv:=List.zipWith (λx y=>.tup [x,y]) xs ys
def gL (xs:List Dv):List Dv:=(List.range xs.length).zipWith (λk x=>.tup [di (k:Nat),x]) xs
theorem Lh (hm:F.mg "zip"=none)(ha:Ev F a ρ ta)(hb:Ev F b ρ tb')(ea:er ta=.lst xs)(eb:er tb'=.lst ys){p:Pos}(hg:∀i,Gl (F.cx i) "zip":=by intro _;rfl)(hs:∀i,starEach [a,b] (F.cx i).env=[(false,eval a (F.cx i).env),(false,eval b (F.cx i).env)]:=by intro _;rfl)(dq:∀i,starEach [b] (F.cx i).env=[(false,eval b (F.cx i).env)]:=by intro _;rfl):
  bb F (.Tuple elts kk tp) (.Call (.Name "zip" p) [a,b] [] pos) ρ (iV xs ys):=by
 obtain⟨τ,p,q⟩:_:=(ag ha (ag hb ak dq) (λi=>'J')).use;refine⟨F6 F.K τ,λi=>F.hK i▸M0 (hg i) ((F.hm i).symm▸hm) (p i) (hs i) (dq i),λσ G H R s r k=>q σ G H _ s r λvs G1 H1 s1 hx=>?_⟩;obtain⟨x,y,rfl,h1,h2⟩:_:=p8 hx;rw[ea]at h1;rw[eb]at h2;obtain⟨l1,us,rfl,g1,g2⟩:_:=h1;obtain⟨l2,ws,rfl,g3,g4⟩:_:=h2;have e1:=g2.length;have e2:=g4.length;refine⟨l1,l2,us,ws,rfl,s1.s.seq g1,s1.s.seq g3,k _ G1 H1 s1 λj G2 H2 sg sh=>⟨λd hd=>?_,λhz=>?_⟩⟩
 ·unfold iV at hd;rw[Pd]at hd;cases qx:xs[j]? with
  |none=>rw[qx]at hd;cases hd
  |some dx=>
   cases qy:ys[j]? with
   |none=>rw[qx,qy]at hd;cases hd
   |some dy=>
    rw[qx,qy]at hd;cases hd;obtain⟨vx,x1,x2⟩:_:=g2.get qx;obtain⟨vy,y1,y2⟩:_:=g4.get qy;have lx:=(gz.mp x1).1;have ly:=(gz.mp y1).1;refine⟨⟨(sg.trans sh).seq g1,(sg.trans sh).seq g3,'O'⟩,?_⟩;intro x H3 z9;obtain⟨T,wx,wy,hT,z1,z2,rfl,rfl⟩:_:=z9;rw[x1]at z1;rw[y1]at z2;cases z1;cases z2;refine⟨_,.new sh hT,T,_,rfl,cS.of bQ,_,_,rfl,(x2.mono sg).mono (aj.new (sh.free hT)),_,_,rfl,(y2.mono sg).mono (aj.new (sh.free hT)),rfl⟩
 ·refine⟨(sg.trans sh).seq g1,(sg.trans sh).seq g3,?_⟩;rw[hz];unfold iV
  simp_all
theorem rL (hm:F.mg "enumerate"=none)(ha:Ev F a ρ ta)(ea:er ta=.lst xs){p:Pos}(hg:∀i,Gl (F.cx i) "enumerate":=by intro _;rfl)(hs:∀i,starEach [a] (F.cx i).env=[(false,eval a (F.cx i).env)]:=by intro _;rfl):bb F (.Tuple elts kk tp) (.Call (.Name "enumerate" p) [a] [] pos) ρ (gL xs):=by
 obtain⟨τ,p,q⟩:_:=(ag ha ak hs).use;refine⟨F7 F.K τ,λi=>F.hK i▸Lg (hg i) ((F.hm i).symm▸hm) (p i) (hs i),λσ G H R s r k=>q σ G H _ s r λvs G1 H1 s1 hx=>?_⟩;obtain⟨x,rfl,h1⟩:=iA hx;rw[ea]at h1;obtain⟨l1,us,rfl,g1,g2⟩:=h1;have e1:=g2.length;refine⟨l1,us,rfl,s1.s.seq g1,k _ G1 H1 s1 λj G2 H2 sg sh=>⟨λd hd=>?_,λhz=>?_⟩⟩
 ·unfold gL at hd;rw[Pd]at hd;cases qx:xs[j]? with
  |none=>
   simp_all
  |some dx=>
   have lj:=(gz.mp qx).1;rw[qx,IF lj]at hd;cases hd;obtain⟨vx,x1,x2⟩:_:=g2.get qx;refine⟨⟨(sg.trans sh).seq g1,'O'⟩,?_⟩;intro x H3 z9;obtain⟨T,wx,hT,z1,rfl,rfl⟩:_:=z9;rw[x1]at z1;cases z1;exact⟨_,.new sh hT,T,_,rfl,cS.of bQ,_,_,rfl,⟨rfl,rfl⟩,_,_,rfl,(x2.mono sg).mono (aj.new (sh.free hT)),rfl⟩
 ·refine⟨(sg.trans sh).seq g1,?_⟩;rw[hz];unfold gL
  simp_all
theorem Jo {ds:List Dv}(e:EZ n (.tup ds)=some dd):ds.length=n/\dd=ds:=by
 have e':(if ds.length=n then some ds else none)=some dd:=e
 grind
theorem iT (j1 j2:Nat){y:Str}{px py:Pos}(hN:∀i,(F.cx i).N.Nodup)(h1:∀i,(F.cx i).N[j1]?=some x:=by intro _;rfl)(h2:∀i,(F.cx i).N[j2]?=some y:=by intro _;rfl)(hx:∀i,Loc (F.cx i).env.scope x:=by intro _;first|exact Or.inl rfl|exact Or.inr rfl)(hy:∀i,Loc (F.cx i).env.scope y:=by intro _;first|exact Or.inl rfl|exact Or.inr rfl)(fx:∀i,(F.cx i).fn x=true\/(F.cx i).env.scope.names.lookup x=some .local:=by intro _;first|exact .inl rfl|exact .inr rfl)(fy:∀i,(F.cx i).fn y=true\/(F.cx i).env.scope.names.lookup y=some .local:=by intro _;first|exact .inl rfl|exact .inr rfl):
  ie F (.Tuple [.Name x px,.Name y py] kk tp) [j1,j2] (EZ 2):=
 ⟨FO F.K 2 (sO (eJ j1) (sO (eJ j2) FN)),λi=>F.hK i▸yJ (F.calm i) (j8 (jJ (hN i) (h1 i) (hx i) (fx i)) (j8 (jJ (hN i) (h2 i) (hy i) (fy i)) yp)),λd dd v σ G H Q e s h k=>by
  cases d with
  |fl _=>cases e
  |lst _=>cases e
  |tup ds=>
   obtain⟨hl,rfl⟩:=Jo e;obtain⟨a,vs,rfl,q1,q2⟩:=h;have hv:vs.length=2:=by rw[<- q2.length];exact hl
   refine⟨a,vs,rfl,s.tup q1,hv,?_⟩
   match vs,hv with
   |[v1,v2],_=>exact⟨v1,[v2],rfl,v2,[],rfl,rfl,k [v1,v2] q2⟩⟩
theorem uU (j1 j2 j3:Nat){y z:Str}{px py pz:Pos}(hN:∀i,(F.cx i).N.Nodup)(h1:∀i,(F.cx i).N[j1]?=some x:=by intro _;rfl)(h2:∀i,(F.cx i).N[j2]?=some y:=by intro _;rfl)(h3:∀i,(F.cx i).N[j3]?=some z:=by intro _;rfl)(hx:∀i,Loc (F.cx i).env.scope x:=by intro _;first|exact Or.inl rfl|exact Or.inr rfl)(hy:∀i,Loc (F.cx i).env.scope y:=by intro _;first|exact Or.inl rfl|exact Or.inr rfl)(hz:∀i,Loc (F.cx i).env.scope z:=by intro _;first|exact Or.inl rfl|exact Or.inr rfl)(fx:∀i,(F.cx i).fn x=true\/(F.cx i).env.scope.names.lookup x=some .local:=by intro _;first|exact .inl rfl|exact .inr rfl)(fy:∀i,(F.cx i).fn y=true\/(F.cx i).env.scope.names.lookup y=some .local:=by intro _;first|exact .inl rfl|exact .inr rfl)(fz:∀i,(F.cx i).fn z=true\/(F.cx i).env.scope.names.lookup z=some .local:=by intro _;first|exact .inl rfl|exact .inr rfl):
  ie F (.Tuple [.Name x px,.Name y py,.Name z pz] kk tp) [j1,j2,j3] (EZ 3):=
 ⟨FO F.K 3 (sO (eJ j1) (sO (eJ j2) (sO (eJ j3) FN))),λi=>F.hK i▸yJ (F.calm i) (j8 (jJ (hN i) (h1 i) (hx i) (fx i)) (j8 (jJ (hN i) (h2 i) (hy i) (fy i)) (j8 (jJ (hN i) (h3 i) (hz i) (fz i)) yp))),λd dd v σ G H Q e s h k=>by
  cases d with
  |fl _=>cases e
  |lst _=>cases e
  |tup ds=>
   obtain⟨hl,rfl⟩:=Jo e;obtain⟨a,vs,rfl,q1,q2⟩:=h;have hv:vs.length=3:=by rw[<- q2.length];exact hl
   refine⟨a,vs,rfl,s.tup q1,hv,?_⟩
   match vs,hv with
   |[v1,v2,v3],_=>exact⟨v1,[v2,v3],rfl,v2,[v3],rfl,v3,[],rfl,rfl,k [v1,v2,v3] q2⟩⟩
theorem Za (he:bB F e ρ t)(hg:ie F tg js sp)(hd:sp (er t)=some dd)(hj:js.all (λj=>Nat.blt j ρ.length)=true:=by rfl)(hs:∀i,swapsWithSole [tg] e pos.line (F.cx i).env=pure false:=by intro _;rfl)(hw:∀i,swappedStores [tg] e (F.cx i).env=pure none:=by intro _;rfl)(h1:∀i,(assignEach [tg] (F.cx i).env).map (·.2)=[assign tg (F.cx i).env]:=by intro _;rfl):Rn F (.Assign [tg] e pos) ρ (.nx (a7 js (dd.map .fz) ρ)):=by
 obtain⟨τ,y,z⟩:_:=he;obtain⟨g,pg,qg⟩:_:=hg;refine⟨lM τ g,λi=>so (y i) (pg i) (hs i) (hw i) (h1 i),λD σ G0 H0 G H r k=>?_⟩;obtain⟨fp,r⟩:=r;refine z σ G H fp _ r.st.s r.own r.g λv G1 H1 fq s1 o w=>?_
 refine qg (er t) dd v σ (cD G1 H1 fq) H1 _ hd (gk s1.s) (o.hv (fm w.g) λa ha=>du ha) λvs nK=>k _ (cD G1 H1 fq) H1 (RS.a7 (F0 hj) nK ⟨fp,r.st.trans (s1.dM w),r.own.mono (s1.dM w).g s1.h,λa ha=>?_,r.n,r.d⟩)
 cases q:cD G1 H1 fq a with
 |none=>rfl
 |some u=>
  obtain⟨u',bp⟩:=r.own.there a ha;have:=(s1.dM w).n a (r.g a ha) 'J'
  simp_all
theorem aa5 (j1 j2:Nat){x y:Str}{px py pt:Pos}{kt k2 tD}(ha:bB F a ρ (ti m))(hb:bB F b ρ (ti n))(hN:∀i,(F.cx i).N.Nodup)(me:Nat.blt j1 ρ.length=true:=by rfl)(oN:Nat.blt j2 ρ.length=true:=by rfl)(hi:∀i,(F.cx i).N[j1]?=some x:=by intro _;rfl)(hj:∀i,(F.cx i).N[j2]?=some y:=by intro _;rfl)(bV:j1≠j2:=by decide)(hx:∀i,(F.cx i).env.scope.names.lookup x=some .local:=by intro _;rfl)(hy:∀i,(F.cx i).env.scope.names.lookup y=some .local:=by intro _;rfl)(hw:∀i,swappedStores [.Tuple [.Name x px,.Name y py] kt pt] (.Tuple [a,b] k2 tD) (F.cx i).env=pure (some [x,y]):=by intro _;rfl)(hs:∀i,swapsWithSole [.Tuple [.Name x px,.Name y py] kt pt] (.Tuple [a,b] k2 tD) pos.line (F.cx i).env=pure false:=by intro _;rfl)(st1:∀i,starEach [a,b] (F.cx i).env=(false,eval a (F.cx i).env)::starEach [b] (F.cx i).env:=by intro _;rfl)(aZ:∀i,starEach [b] (F.cx i).env=(false,eval b (F.cx i).env)::starEach [] (F.cx i).env:=by intro _;rfl):
  Rn F (.Assign [.Tuple [.Name x px,.Name y py] kt pt] (.Tuple [a,b] k2 tD) pos) ρ (.nx ((ρ.set j1 (some (ti m))).set j2 (some (ti n)))):=by
 obtain⟨τ,y1,z1⟩:_:=ha;obtain⟨bL,y2,z2⟩:_:=hb;refine⟨P1 j1 j2 (dH τ (dH bL d8)),λi=>aaO (F.calm i) (hN i) (hi i) (hj i) bV (hx i) (hy i) (cm (y1 i) (cm (y2 i) cR (aZ i)) (st1 i)) (hw i) (hs i),λD σ G0 H0 G H r k=>?_⟩;obtain⟨fp,r⟩:=r;have key:∀{G1 H1:Hp},Step G H G1 H1->∀a∈fp,G1 a=none:=λ{G1 H1} s1 a ha=>by
  cases q:G1 a with
  |none=>rfl
  |some u=>
   obtain⟨u',bp⟩:=r.own.there a ha;have:=s1.n a (r.g a ha) 'J'
   simp_all
 refine z1 σ G H fp _ r.st.s r.own r.g λv G1 H1 fq s1 o w=>z2 σ G1 H1 fp _ s1.s (r.own.mono s1.g s1.h) (key s1) λv' G2 H2 Q8 s2 o' w'=>?_
 have e1:=aO o.2;have e2:=aO o'.2;subst e1 e2;refine⟨_,_,rfl,?_⟩;have kT:=s1.trans s2;obtain⟨fp1,r1⟩:=(⟨r.st.trans kT,r.own.mono kT.g kT.h,key kT,r.n,r.d⟩:fj F.K G0 H0 G2 H2 ρ σ fp).set (t:=ti m) (adv me) (.refl kT.s) ⟨rfl,rfl,rfl⟩ .nil;exact k _ G2 H2 (r1.set 'J' (.refl kT.s) ⟨rfl,rfl,rfl⟩ .nil)
end
theorem XU
  (L:iR X sc cl fr)(hc:X.calm=true)(hi:PI X tg iter wi)(hg:∀C s H ex pn,PG (dI X own fr sc cl C s H ex pn) tg g)(ht:∀C s H ex pn (pins:List (adV×Obj)) (s1:adX) (ao:St) (H1:Hp) (Q:Bool->Hp->Prop),Inv (dI X own fr sc cl C s H ex pn) pins ao H1 s1->tt ao H1 Q ->
   wpAny (model X.prog X.w) X.A (mK ifs (compEnvC sc (cellsFrom (C+1) sc.names cl) C X.env)) (TP (dI X own fr sc cl C s H ex pn) pins ao Q) cO s1)(he:∀C s H ex pn,PE (dI X own fr sc cl C s H ex pn) elt te)(hN0:X.N.Nodup)(hj0:X.N[j0]?=some y0)(hx0:Loc X.env.scope y0)(kQ:swapsWith (.ListComp elt [⟨tg,iter,ifs,0⟩] sc pos) (some (.Name y0 py)) zQ.line X.env=pure true)(hf0:X.fn y0=true\/X.env.scope.names.lookup y0=some .local)(hs:∀x,foldedSetIterable iter X.env x=pure x:=by intro _;rfl):
  PS X (.Assign [.Name y0 py] (.ListComp elt [⟨tg,iter,ifs,0⟩] sc pos) zQ) (lM (Ai wi g tt te own fr) (eJ j0)):=by
 intro pins s σ H D I h;rw[exec_Assign_Name_used _ _ _ _ kQ];refine ar (afV (ar ?_));refine ar (afn (wpAny_comprehension_free rfl hs L.Qc L.kind L.names (aE (hi pins s σ H _ I h) λv s1 h1=>aE h1 λAc s2 h2=>?_)) (λ_ s' hq=>wpAny_pure (wpAny_pure hq)) λ_ _ e=>e);obtain⟨it,fp,tn,J,H2,e,I2,T,aZ,f2,h2⟩:_:=h2;subst e;refine SO ?_;have I3:=I2.zN (t':=s2.toks) .nil (AM _);have n2:=I2.fresh;obtain⟨W,⟨m0,w0⟩,turn⟩:_:=h2 _ n2;have wq:∀b∈fp,b<s2.heap.objs.size:=λb hb=>by
  obtain⟨o,eo,_⟩:=T.obj 0 _ aZ b hb;exact nt eo
 have eF:∀b∈fp,jr X pins (upd H2 s2.heap.objs.size (.lst [])) b:=λb hb=>⟨by rw[aQ (AN (wq b hb))];exact(f2 b hb).1,(f2 b hb).2⟩
 generalize gQ:({s2 with heap:=s2.heap.push {cls:=.type "list",data:=.seq ([]).toArray}}:adX)=s3 at I3;have fU:tn 0 s3.heap:=by
  rw[<- gQ];exact T.keep 0 _ _ aZ λb hb o eo=>mf _ eo
 have qG:∀b∈fp,b<s3.heap.objs.size:=λb hb=>by
  obtain⟨o,eo,_⟩:=T.obj 0 _ fU b hb;exact nt eo
 generalize tE:upd H2 s2.heap.objs.size (.lst [])=H3 at I3 eF w0;generalize s2.heap.objs.size=acc at turn w0 tE ⊢;refine Je ?_;have kN:(pushCells (s3.heap.push {cls:=.type "dict",data:=.dict #[]}) sc.names).Ns s3.heap.objs.size λ_=>none:=(Heap.Ns.new s3.heap (.type "dict")).keeps (aeK _ _)
 have kp:∀b o,s3.heap.get? b=some o->(pushCells (s3.heap.push {cls:=.type "dict",data:=.dict #[]}) sc.names).get? b=some o:=λb o eo=>aeK _ _ b o (mf _ eo)
 have qE:=λy c e=>
  yv sc.names (s3.heap.push {cls:=.type "dict",data:=.dict #[]}) cl y c (by rw[ae1];exact e)
 generalize hh4:pushCells (s3.heap.push {cls:=.type "dict",data:=.dict #[]}) sc.names=h4 at kN kp qE;have I4:=lcInv (own:=own) (tk:=s3.toks) L I3 eF qG kN kp qE;have wt:=T.keep 0 _ _ fU λb hb o eo=>kp b o eo
 have stat:∀{H':Hp},(∀b∈fp,H' b=none)->∀b∈fp,jr (dI X own fr sc cl s3.heap.objs.size s3 H3 fp (X.pn++pins)) [] H' b:=λ{H'} hn b hb=>
  ⟨hn b hb,AN (qG b hb),λz=>(ff.mp (I3.uP b z)).elim (eF b hb).2.1 (eF b hb).2.2.1,.inl hb,λy c e=>(ug _ _ _ y c e).elim (λq=>(eF b hb).2.2.2.2.1 y c (L.sub y c q)) λq=>ael (zd (qG b hb) (aes q.1)),λp hp=>(eF b hb).2.2.2.2.2 p (by
   have z:p∈(X.pn++pins)++[]:=hp;simpa using z)⟩
 have loop:codeAny (model X.prog X.w) X.A (.compLoop (.ListComp elt [⟨tg,iter,ifs,0⟩] sc pos) 0 (.ref it) (.ref acc) (compEnvC sc (cellsFrom (s3.heap.objs.size+1) sc.names cl) s3.heap.objs.size X.env))
   (compPost (model X.prog X.w) X.A X.xe (some (assign (.Name y0 py) X.env)) (λ_ s'=>SP X pins D .next s') (.ref acc) s3.heap.objs.size) {s3 with heap:=h4,toks:=s3.toks}:=by
  refine MN (λn s'=>∃i ys ao H1,Inv (dI X own fr sc cl s3.heap.objs.size s3 H3 fp (X.pn++pins)) [] ao H1 s'/\tn i s'.heap/\(∀b∈fp,H1 b=none)/\W i n ys ao H1) ?_ m0 ⟨0,[],_,H3,I4,wt,λb hb=>(eF b hb).1,w0⟩;intro n s5 z9;obtain⟨i,ys,nF,H5,I5,nB,qA,w5⟩:_:=z9;obtain⟨dS,hlen,hh⟩:=turn i n ys nF H5 w5;obtain⟨stop,qn⟩|⟨go,N,hN,step⟩:=hh
  ·refine aE (T.done (dI X own fr sc cl s3.heap.objs.size s3 H3 fp (X.pn++pins)) rfl rfl rfl hc i [] s5 nF H5 cO I5 (stat qA) nB stop) λr s6 z9=>?_
   obtain⟨hr,I6⟩:=z9;subst hr;obtain⟨m6,GN,_⟩:=id I6.loc;have back:∀h7,Heap.SameBut s3.heap.objs.size s6.heap h7->Inv X pins σ H5 {s6 with heap:=h7}:=λh7 nG=>by
    have old:∀b o,s3.heap.get? b=some o->b≠s3.heap.objs.size:=λb o eo=>AN (nt eo)
    have u6:=I6.base;have u7:Un (fH X.stack) fp H3 H5 s3.heap h7:=
     ⟨λb o eo nn hb hx=>(nG.2 b (old b o eo)).trans (u6.keep b o eo nn hb hx),λb o eo nn hb hx=>by
      obtain⟨sl,q⟩:=u6.slot b o eo nn hb hx;exact⟨sl,(nG.2 b (old b o eo)).trans q⟩,u6.free,λb o eo hx=>by
      obtain⟨o',q⟩:=u6.there b o eo hx;exact⟨o',(nG.2 b (old b o eo)).trans q⟩,u6.lK,u6.ky,u6.lL⟩
    have fC:H5 s3.heap.objs.size=none:=I6.free;have FZ:=λb ob eb=>by
     refine(I6.aL b ob eb).ni (λc w' kJ q=>(nG.2 c ?_).trans q) (λ_ q=>q) λ_ _ q=>q
     rintro rfl;obtain z|z:=kJ
     ·rw[<- z,fC]at eb;cases eb
     ·rw[fC]at z;cases z
    exact I3.OJ (s':={s6 with heap:=h7}) I6.os u7 FZ I6.bare λb hb=>⟨(eF b hb).2.2.2.1,(eF b hb).2.1,(eF b hb).2.2.2.2.1,(eF b hb).2.2.2.2.2⟩
   have fC0:=I6.free;refine wpAny_assign_Name (Jt (v:=.ref acc) (back s6.heap (Heap.SameBut.refl ..)) hN0 hj0 hx0 rfl (λs7 I7 z9=>?_) hf0);obtain⟨a,sb,ha⟩:=z9;have aC:s3.heap.objs.size≠a:=by
    obtain rfl|ha:=ha
    ·exact ael I3.lt
    ·obtain⟨v0,q0⟩:=I3.cell y0 a ha;exact ael q0.lt
   refine⟨m6,GN.sameBut sb aC,λh8 sb8=>⟨_,H5,?_,qn⟩⟩;exact Inv.C9 (t':=s7.toks) (fs:=[s3.heap.objs.size]) I7 (λb o hb e=>(sb8.2 b (λz=>hb (by rw[z];exact .head _))).trans e) (λb hb=>by
    rw[BB.mp hb];exact I3.vF (H':=H5) (br _) fC0)
  ·refine aE (T.item (dI X own fr sc cl s3.heap.objs.size s3 H3 fp (X.pn++pins)) rfl rfl rfl hc i [] s5 nF H5 cO I5 (stat qA) nB go) λr s6 z9=>?_
   obtain⟨u,hr,h6⟩:=z9;subst hr;refine aE h6 λ_ s7 z9=>?_
   obtain⟨x,H7,I7,r7,y7,qI,GO⟩:=z9;have GP:=I7.pinned (stat GO) (T.obj _ _ qI);refine aE (hg _ _ _ _ _ _ s7 nF H7 x u _ GP r7 (step x H7 y7)) λ_ s8 z9=>?_
   obtain⟨nH,H8,I8,q8⟩:=z9;have again:∀{zs:List V} {kO:St} {H9:Hp} {s9:adX},Inv (dI X own fr sc cl s3.heap.objs.size s3 H3 fp (X.pn++pins)) ([]++sr fp s7.heap) kO H9 s9->N zs kO H9 ->
     ∃m,m<n/\∃i ys ao H1,Inv (dI X own fr sc cl s3.heap.objs.size s3 H3 fp (X.pn++pins)) [] ao H1 s9/\tn i s9.heap/\(∀b∈fp,H1 b=none)/\W i m ys ao H1:=λ{zs kO H9 s9} I9 n9=>by
    obtain⟨m',hm,w9⟩:=hN zs kO H9 n9;refine⟨m',hm,i+1,zs,kO,H9,I9.uk,T.keep _ _ _ qI λb hb o e=>(I9.pin (b,o) (l7 _ (l7 _ (rJ hb e)))).1,λb hb=>?_,w9⟩;obtain⟨o,e,d⟩:=T.obj _ _ qI b hb;exact(I9.pin (b,o) (l7 _ (l7 _ (rJ hb e)))).2.1
   refine aE (ht _ _ _ _ _ _ s8 nH H8 _ I8 q8) λok s9 z9=>?_
   obtain⟨H9,I9,q9⟩:=z9;cases ok with
   |false=>exact again I9 (by simpa using q9)
   |true=>
    refine aE (he _ _ _ _ _ _ s9 nH H9 _ I9 q9) λz jC z9=>?_
    obtain⟨y,nI,GQ,GR,GU,GV⟩:=z9;refine aE (oY _ jC nH nI (.ref acc) [y] (.ref acc) [z] (λ_ H'=>N (ys++[y]) nH H') GQ rfl (.cons GR .nil) ⟨acc,ys,y,rfl,rfl,GU,hlen,GV⟩) λ_ s11 ⟨_,H11,GW,_,GX⟩=>again GW GX
 rw[<- gQ]at loop ⊢;exact codeAny_compStart_list loop (GL (T.self _ 0 _ _ _ wt (by rw[gQ];rw[gQ]at loop;exact loop)))
section
variable {F:aS ι}{pos zQ py:Pos}
theorem zR (h:ig F own fr sc cl elt tg iter ifs ρ t):∃τ,Ar F own fr sc cl elt tg iter ifs τ/\∀σ G H fp Q,aj G H->bw F.K G H ρ σ fp->(∀a∈fp,G a=none)->Kv F.K G H t Q->τ σ H Q:=
 by obtain⟨τ,v,y⟩:_:=h;exact⟨τ,v,λσ G H fp Q s r _ k=>y σ G H Q s r.tH k⟩
theorem acV (h:ig F own fr sc cl elt tg iter ifs (pk ρ) t)(c:Cl t):∃τ,Ar F own fr sc cl elt tg iter ifs τ/\∀σ G H fp Q,aj G H->bw F.K G H ρ σ fp->(∀a∈fp,G a=none)->Kv F.K G H t Q->τ σ H Q:=by
 obtain⟨τ,x,y⟩:_:=h;refine⟨τ,x,λσ G H fp Q s r hg k=>?_⟩;refine y σ (cD G H fp) H Q (gk s) (r.pk (fm hg) λa ha=>du ha) λv G' H' fq st o w=>?_
 refine k v G H' fq ⟨aj.refl _,st.h,s.trans st.h,λa h h'=>absurd h h'⟩ (o.cl c) ⟨w.n,λa ha=>s.free (w.n a ha),w.d⟩
theorem uV (j:Nat){x:Str}(h:∃τ,Ar F own fr sc cl elt tg iter ifs τ/\∀σ G H fp Q,aj G H->bw F.K G H ρ σ fp->(∀a∈fp,G a=none)->Kv F.K G H t Q->τ σ H Q)(L:∀i,iR (F.cx i) sc (cl i) fr)(hN:∀i,(F.cx i).N.Nodup)(hj:Nat.blt j ρ.length=true:=by rfl)(hi:∀i,(F.cx i).N[j]?=some x:=by intro _;rfl)(hx:∀i,Loc (F.cx i).env.scope x:=by intro _;first|exact Or.inl rfl|exact Or.inr rfl)(kQ:∀i,swapsWith (.ListComp elt [⟨tg,iter,ifs,0⟩] sc pos) (some (.Name x py)) zQ.line (F.cx i).env=pure true:=by intro _;rfl)(hf:∀i,(F.cx i).fn x=true\/(F.cx i).env.scope.names.lookup x=some .local:=by intro _;first|exact .inl rfl|exact .inr rfl)(hs:∀i x,foldedSetIterable iter (F.cx i).env x=pure x:=by intro _ _;rfl):
  Rn F (.Assign [.Name x py] (.ListComp elt [⟨tg,iter,ifs,0⟩] sc pos) zQ) ρ (.nx (ρ.set j (some t))):=by
 obtain⟨τ,⟨wi,g,tt,te,rfl,h1,h2,h3,h4⟩,z⟩:_:=h;refine⟨_,λi=>XU (L i) (F.calm i) (h1 i) (λC s H ex pn=>h2 (i,⟨C,s,H,ex,pn⟩)) (λC s H ex pn=>h3 (i,⟨C,s,H,ex,pn⟩)) (λC s H ex pn=>h4 (i,⟨C,s,H,ex,pn⟩)) (hN i) (hi i) (hx i) (kQ i) (hf i) (hs i),λD σ G0 H0 G H r k=>?_⟩;obtain⟨fp,r⟩:=r;exact z σ G H fp _ r.st.s r.own r.g λv G1 H1 fq s1 o w=>k _ G1 H1 (r.set (adv hj) s1 o w)
theorem ig.as (h:ig F own fr sc cl elt tg iter ifs ρ t)(e:er t=d):ig F own fr sc cl elt tg iter ifs ρ (.fz d):=by
 obtain⟨τ,v,q⟩:=h;refine⟨τ,v,λσ G H Q s r k=>q σ G H Q s r λv G' H' fq st o w=>?_⟩;exact k v (cD G' H' fq) H' [] (st.dM w) ⟨rfl,e▸o.hv (fm w.g) λa ha=>du ha⟩ .nil
theorem ig.to (h:ig F own fr sc cl elt tg iter ifs ρ t)(e:t=t'):ig F own fr sc cl elt tg iter ifs ρ t':=e▸h
end
section
variable {F:aS ι}{pos:Pos}
theorem ab7 {id:String}(slot:Slot "list" nm id)(GI:typeOf (.builtin id)=pure (.type "method_descriptor"))(hm:∀i,QZ (F.cx i) id r)(ho:Ev F o ρ to)(eo:er to=.lst xs)(ha:jE F (e::es) ρ ts)(h:∀G H x vs Q,aj G H->Hv F.K G (er to) x->aH F.K G (fh ts) vs->Kv F.K G H t Q->r x vs H Q){apos:Pos}(jl:∀i,attributeBase o nm (F.cx i).env (eval o (F.cx i).env)=eval o (F.cx i).env:=by intro _;rfl)(jt:∀i,((backTo pos (starEach (e::es) (F.cx i).env)).all (λx=>!x.1)&&(backToKw pos (keywordEach [] (F.cx i).env)).all (λx=>x.1.isSome)&&decide ((e::es).length+([]:List Keyword).length+(if([]:List Keyword).isEmpty then 0 else 1)<30))=true:=by intro _;rfl)(hline:(apos.endLine==pos.line)=true:=by rfl)(hs:∀i,starEach (e::es) (F.cx i).env=(false,eval e (F.cx i).env)::starEach es (F.cx i).env:=by intro _;rfl)(MM:∀i,(backTo pos (starEach es (F.cx i).env)).any (·.1)=false:=by intro _;rfl):
  Ev F (.Call (.Attribute o nm apos) (e::es) [] pos) ρ t:=by
 obtain⟨τ,p,q⟩:_:=ho.use;obtain⟨bL,p',q'⟩:=ha.use;refine⟨nD F.K "list" r τ bL,λi=>F.hK i▸lF GG slot GI (hm i) (p i) (p' i) (jl i) (jt i) hline (hs i) (MM i),λσ G H Q s rr k=>?_⟩;refine q σ G H _ s rr λx G1 H1 s1 hx=>⟨?_,q' σ G1 H1 _ s1.s (rr.mono s1.g) λvs G2 H2 s2 hv=>h G2 H2 x vs Q s2.s (hx.mono s2.g) hv (k.step (s1.trans s2))⟩
 rw[eo]at hx;obtain⟨l,us,rfl,h1,h2⟩:=hx;exact .inl ⟨rfl,_,s1.s.seq h1⟩
theorem JD {K:Frag}:∀{bs:List Bool} {vs:List V},aH K G (bs.map db) vs->vs=bs.map V.bl
 |[],_,h=>h
 |_::_,_,z9=>by obtain⟨x,r,h1,h2,h3⟩:=z9;subst h1;rw[aO h2,JD h3];rfl
theorem Ja {α β:Type}(l:List α)(d : α)(f : α->β):(List.range l.length).map (λk=>f ((l[k]?).getD d))=l.map f:=by
 refine OE λi=>?_
 grind
theorem M6:∀ds,fh (ds.map .fz)=ds
 |[] => rfl
 |d::ds=>by show d::fh (ds.map .fz)=_;rw[M6 ds]
theorem fP (ds:List Dv):er (.ow (ds.map .fz))=.lst ds:=by show Dv.lst _=_;rw[M6]
theorem Ev.to (h:Ev F e ρ t)(q:t=t'):Ev F e ρ t':=q▸h
theorem Et.to (h:Et F e ρ p)(z:p=q):Et F e ρ q:=z▸h
theorem bB.to (h:bB F e ρ t)(q:t=t'):bB F e ρ t':=q▸h
theorem jM (hc:fI F c ρ p)(hp:p=true)(h1:bt F A ρ o):Rn F (.If c A B pos) ρ o:=vh hc (λ_=>h1) λh=>'J'
theorem DW (hc:fI F c ρ p)(hp:p=false)(h1:bt F B ρ o):Rn F (.If c A B pos) ρ o:=vh hc (λh=>'J') λ_=>h1
theorem cQ (hc:fI F c ρ p)(hp:p=false):Rn F (.If c A [] pos) ρ (.nx ρ):=DW hc hp mN
def Qi (dd:List Dv)(t:Tr):Prop:=∃ns:LI,ns.length<=63/\dd=[dis ns]/\t=tb true
def zt (K:Frag):Sp:=λvs H Q _=>∃(a:adV) (ns:LI),vs=[.ref a]/\aM K H a (ns.map V.int)/\ns.length<=63/\∀H',Q (.bl true) H'
theorem aa6 {K:Frag}(F:bS P w K mg base bx k f fd ["_law_script"] (spT K Qi)):bS P w K mg base bx k f fd ["_law_script"] (zt K):=
 F.imp λvs H Q E z9=>by obtain⟨a,ns,e,h1,h2,h3⟩:_:=z9;exact⟨H,[dis ns],tb true,aj.refl _,⟨.ref a,[],e,⟨a,_,rfl,h1,j9⟩,rfl⟩,⟨ns,h2,rfl,rfl⟩,λv G' H' fq st o w=>by rw[aO o.2];exact h3 H'⟩
end
end L2
namespace dA
def gc (a b:Int):Int:=(Int.gcd a b:Int)
theorem sE (h:b≠0) : 0<gc a b:=by
 grind [Int.gcd_pos_of_ne_zero_right,gc]
theorem J9 (a b:Int):gc a b∣a:=aez ..
theorem Ka (a b:Int):gc a b∣b:=aet ..
theorem Li (a:Int):gc a 0=(a.natAbs:Int):=by unfold gc;rw[Int.gcd_zero_right]
theorem Lj (a:Int):gc b (a%b)=gc a b:=by
 unfold gc;congr 1;apply Nat.dvd_antisymm
 ·refine Int.dvd_gcd ?_ (aez ..);have h1:(↑(Int.gcd b (a%b)))∣b:=aez ..;have h2:(↑(Int.gcd b (a%b)))∣a%b:=aet ..;have:=Int.dvd_add (Int.dvd_trans h1 (Int.dvd_mul_right b (a/b))) h2;rwa [Int.mul_ediv_add_emod]at this
 ·refine Int.dvd_gcd (aet ..) ?_;have h1:(↑(Int.gcd a b))∣a:=aez ..;have h2:(↑(Int.gcd a b))∣b:=aet ..;rw[Int.emod_def]
  grind [Int.dvd_sub,Int.dvd_trans,Int.dvd_mul_right]
theorem aa7 (a b:Int):gc (a.natAbs:Int) (b.natAbs:Int)=gc a b:=by
 rfl
theorem Dc (h : 0<b):gc a b<=b:=afk h (Ka a b)
def lT (t b:Int):Int:=(if b<0 then -t else t)/gc t b
def lB (t b:Int):Int:=(b.natAbs:Int)/gc t b
theorem M9 {t b:Int}(h : 0<b):lT t b=t/gc t b:=by unfold lT;rw[rf 'O']
theorem Nb (h : 0<b):lB t b=b/gc t b:=by grind [lB]
theorem DX (t b:Int):lT t b*gc t b=if b<0 then -t else t:=by
 refine OR ?_;split
 ·simp_all [J9]
 ·exact J9 t b
theorem DY (t b:Int):lB t b*gc t b=(b.natAbs:Int):=by
 refine OR ?_;exact ae3.mpr (Ka t b)
theorem Fb (h:b≠0) : 1<=lB t b:=by
 have h1:=DY t b;have h2:=sE (a:=t) h;have h3 : 0<lB t b:=Int.pos_of_mul_pos_left 'O' h2;lia
theorem ab8 (h:b≠0):lB t b<=(b.natAbs:Int):=af1 _ 'O'
theorem aa8 (h:b≠0):(lT t b).natAbs<=t.natAbs:=by
 have h1:=DX t b;have h2:=sE (a:=t) h;have h3:(lT t b*gc t b).natAbs=t.natAbs:=by rw[h1];split<;>omega
 rw[aex]at h3;have h4 : 1<=(gc t b).natAbs:='Z'
 calc (lT t b).natAbs=(lT t b).natAbs*1:='O'
  _<=(lT t b).natAbs*(gc t b).natAbs:=Nat.mul_le_mul_left _ h4
  _=t.natAbs:=h3
theorem Dd (h:b≠0):lT t b*b=t*lB t b:=by
 grind [DX,DY]
theorem B5 (h:b≠0):Int.gcd (lT t b) (lB t b)=1:=by
 have h1:=DX t b;have h2:=DY t b;have h3:=sE (a:=t) h;have Hg:((Int.gcd (lT t b) (lB t b):Int))∣lT t b:=aez ..;have hd2:((Int.gcd (lT t b) (lB t b):Int))∣lB t b:=aet ..;have e1:((Int.gcd (lT t b) (lB t b)))*gc t b∣t:=by
  have:=Int.mul_dvd_mul Hg (Int.dvd_refl (gc t b));rw[h1]at this;split at this
  ·simp_all
  ·lia
 have e2:((Int.gcd (lT t b) (lB t b)))*gc t b∣b:=by
  have:=Int.mul_dvd_mul hd2 (Int.dvd_refl (gc t b));rw[h2]at this;exact ae3.mp this
 have e3:=Int.dvd_coe_gcd e1 e2;have e4:=afk h3 e3;have e5 : 0<Int.gcd (lT t b) (lB t b):=Int.gcd_pos_of_ne_zero_right _ (by grind);by_cases hh:Int.gcd (lT t b) (lB t b)=1
 ·lia
 ·have e6:(2)<=((Int.gcd (lT t b) (lB t b)):Int):='O'
  have : 2*gc t b<=((Int.gcd (lT t b) (lB t b)))*gc t b:=Me e6 'O';lia
theorem CB (hb:b≠0)(hq : 0<q)(hg:Int.gcd p q=1)(h:p*b=t*q):p=lT t b/\q=lB t b:=by
 have c:=Dd (t:=t) hb;have g:=B5 (t:=t) hb;have k:=Fb (t:=t) hb;have e:p*lB t b=lT t b*q:=by
  apply Int.eq_of_mul_eq_mul_right hb
  grind
 have d1:q∣lB t b:=by
  have z:q∣p*lB t b:='J'
  have z':q.natAbs∣p.natAbs*(lB t b).natAbs:=by rw[<- aex];exact adY.mpr z
  have cp:Nat.Coprime q.natAbs p.natAbs:=by
   grind [Int.gcd]
  exact adY.mp (cp.dvd_of_dvd_mul_left z')
 have d2:lB t b∣q:=by
  have z:lB t b∣lT t b*q:=by grind [Int.dvd_mul_left]
  have z':(lB t b).natAbs∣(lT t b).natAbs*q.natAbs:=by rw[<- aex];exact adY.mpr z
  have cp:Nat.Coprime (lB t b).natAbs (lT t b).natAbs:=by
   grind [Int.gcd]
  exact adY.mp (cp.dvd_of_dvd_mul_left z')
 have eq:=Int.dvd_antisymm 'O' 'O' d1 d2
 grind [Int.eq_of_mul_eq_mul_right]
theorem acW (hb:b≠0)(nL:b'≠0)(h:t*b'=t'*b):lT t b=lT t' b'/\lB t b=lB t' b':=by
 refine CB nL (by have:=Fb (t:=t) hb;lia) (B5 hb) ?_;have c:=Dd (t:=t) hb;apply Int.eq_of_mul_eq_mul_right hb
 grind
end dA
namespace dA
def lc (m b:Int):Int:=m*b/gc m b
theorem zu (hm : 0<m)(hb : 0<b):lc m b=(Int.lcm m b:Int):=by
 grind [lc,gc,Int.gcd_mul_lcm,Int.gcd_pos_of_ne_zero_right,Int.mul_ediv_cancel_left]
theorem DZ (hm : 0<m)(hb : 0<b) : 0<lc m b:=by
 grind [zu,Int.lcm_pos]
theorem acX (hm : 0<m)(hb : 0<b):m∣lc m b:=by grind [zu,Int.dvd_lcm_left]
theorem acY (hm : 0<m)(hb : 0<b):b∣lc m b:=by grind [zu,Int.dvd_lcm_right]
theorem XW (hm : 0<m)(hb : 0<b)(h1:m∣n)(h2:b∣n):lc m b∣n:=by
 rw[zu hm hb];have:=Int.lcm_dvd (ae3.mpr h1) (ae3.mpr h2);exact ae3.mp (Int.natCast_dvd_natCast.mpr this)
def iJ (m:Int)(bs:LI):Int:=bs.foldl lc m
theorem yx:∀{bs:LI} {m:Int},0<m->(∀b∈bs,0<b)->0<iJ m bs
 |[],_,h,_=>h
 |b::bs,m,h,hb=>yx (bs:=bs) (DZ h (hb b (.head _))) λc hc=>hb c (.tail _ hc)
theorem De:∀{bs:LI} {m:Int},0<m->(∀b∈bs,0<b)->m∣iJ m bs/\∀b∈bs,b∣iJ m bs
 |[],m,_,_=>⟨Int.dvd_refl _,λ_ h=>nomatch h⟩
 |c::bs,m,h,hb=>by
  have hc:=hb c (.head _);obtain⟨h1,h2⟩:=De (DZ h hc) λx hx=>hb x (.tail _ hx)
  refine⟨Int.dvd_trans (acX h hc) h1,λb tJ=>?_⟩;obtain rfl|tJ:=ff.mp tJ
  ·exact Int.dvd_trans (acY h hc) h1
  ·exact h2 b tJ
theorem xT:∀{bs:LI} {m n:Int},0<m->(∀b∈bs,0<b)->m∣n->(∀b∈bs,b∣n)->iJ m bs∣n
 |[],_,_,_,_,h,_=>h
 |c::bs,m,n,h,hb,h1,h2=>xT (bs:=bs) (DZ h (hb c (.head _))) (λx hx=>hb x (.tail _ hx)) (XW h (hb c (.head _)) h1 (h2 c (.head _))) λx hx=>h2 x (.tail _ hx)
theorem Wb (m:Int)(bs:LI)(b:Int):iJ m (bs++[b])=lc (iJ m bs) b:=by grind [iJ]
end dA
namespace L2
open PySem PySem.Spec PyProof.Rows
theorem mP {lo:Int}(h:(ju lo n)[j]?=some d):j<n/\d=di (lo+(j:Int)):=by
 grind
theorem gn {α β:Type}{f : α->β}{l:List α}{j:Nat}{d : β}(h:(l.map f)[j]?=some d):∃x,l[j]?=some x/\d=f x:=by
 grind
theorem kc {α:Type}{l:List α}{x : α}(h:l[i]?=some x):l.take (i+1)=l.take i++[x]:=by rw[List.take_succ,h];rfl
theorem bt.fg {F:aS ι}(h:bt F dN ρ (.nx ρ1))(f:Fg ρ1 ρ2):bt F dN ρ (.nx ρ2):=by
 obtain⟨τ,x,y⟩:=h;exact⟨τ,x,λD σ G0 H0 G H r k=>y D σ G0 H0 G H r λaD G' H' r'=>k aD G' H' (f.rs r')⟩
theorem oW {F:aS ι}(j:Nat)(hj : ρ[j]?=some (some t))(e:er t=d)(h:bt F dN (ρ.set j (some (.fz d))) o):bt F dN ρ o:=Wa j hj (e▸h)
theorem xK {F:aS ι}{α:Type}(S : α->En)(Pp : α->Prop)(p : α->Bool)(μ : α->Nat)(a0 : α)(e:S a0=ρ)(h0:Pp a0)(hc:∀a,Pp a->fI F c (S a) (p a))(hb:∀a,Pp a->p a=true->∃a',Pp a'/\μ a' < μ a/\bt F body (S a) (.nx (S a')))(fin:∀a,Pp a->p a=false->bt F dN (S a) o)(hx:∀i,(F.cx i).xe=cO:=by intro _;rfl):bt F (.While c body [] pos::dN) ρ o:=by
 subst e;obtain⟨a',h1,h2,h3⟩:=VH S Pp p μ hc hb a0 h0 hx;exact aq h3 (fin a' h1 h2)
def fb (ns:LI)(k:Int):Int:=ns.getD k.toNat 0
theorem cell_in (h0 : 0<=k)(h:k<ns.length):aF (ns.map di) k=some (di (fb ns k)):=by
 grind [dh,fb]
theorem cell_out (h0 : 0<=k)(h:ns.length<=k):fb ns k=0:=by
 unfold fb
 simp_all
theorem D0 {a:Int}(h:a.natAbs<2^4000):a.natAbs<2^8000:=zd h (afe 'Q' 'Q')
theorem yd (f : α->β)(l:List α)(a b:Option Int):cutD (l.map f) a b=(cutD l a b).map f:=by
 unfold cutD
 simp_all
mutual
noncomputable def iK:Dv->Bool
 | .fl v=>iU v
 | .lst ds=>p9 ds
 | .tup ds=>p9 ds
noncomputable def p9:List Dv->Bool
 |[] => true
 |d::ds=>iK d&&p9 ds
end
mutual
theorem ur:∀{d:Dv},iK d=true->bX d d=true
 | .fl v,h=>JY h
 | .lst ds,h=>B6 h
 | .tup ds,h=>B6 h
theorem B6:∀{ds:List Dv},p9 ds=true->gK ds ds=true
 |[],_=>rfl
 |d::ds,h=>by
  have h':(iK d&&p9 ds)=true:=h;rw[Lo]at h';show(bX d d&&gK ds ds)=true;rw[ur h'.1,B6 h'.2]
  rfl
end
theorem CC {α:Type}{f : α->Dv}(h:∀a,iK (f a)=true):∀l:List α,p9 (l.map f)=true
 |[] => rfl
 |a::l=>by
  show(iK (f a)&&p9 (l.map f))=true;rw[h a,CC h l]
  rfl
theorem uF:∀{ds:List Dv},(∀d∈ds,de d<=n)->fc ds<=n
 |[],_=>AM _
 |d::ds,h=>Nat.max_le.mpr ⟨h d (.head _),uF λx hx=>h x (.tail _ hx)⟩
theorem Dg (l:LI):iK (dis l)=true:=CC (λ_=>rfl) l
theorem lu (l:LI):de (dis l)<=1:=by
 show fc _+1<=1;have:fc (l.map di)<=0:=uF λd hd=>by
  obtain⟨_,_,rfl⟩:=i8.mp hd;exact br _
 lia
theorem rR {ds:List Dv}(h:∀d∈ds,de d<=n):de (.lst ds)<=n+1:=ae9 (uF h)
theorem Zb {ds:List Dv}(h:∀d∈ds,de d<=n):de (.tup ds)<=n+1:=ae9 (uF h)
theorem yy {α:Type}{f : α->Dv}(h:∀a,iK (f a)=true)(l:List α):iK (.lst (l.map f))=true:=CC h l
end L2
namespace L2
open PySem PySem.Spec PyProof.Rows
theorem aV.setAt {K:Frag}:∀{us:List Tr} {vs:List V} {fq:List adV} {m:Nat} {t:Tr} {v:V} {f:List adV},aV K G H us vs fq->m<us.length->Ow K G H t v f->fq.Nodup->f.Nodup->(∀a∈f,a∉fq) ->
  ∃fw,aV K G H (us.set m t) (vs.set m v) fw/\fw.Nodup/\∀a∈fw,a∈fq\/a∈f
 |u::us,_,_,0,t,v,f,z9,_,o,nd,nf,dj=>by
  obtain⟨w,r,f1,f2,h1,h2,h3,h4⟩:=z9;subst h1 h2;have ic:=ze.mp nd;refine⟨f++f2,⟨v,r,f,f2,rfl,rfl,o,h4⟩,ze.mpr ⟨nf,ic.2.1,λa ha b hb e=>dj a ha (e▸l7 _ hb)⟩,λa ha=>?_⟩
  grind
 |u::us,_,_,m+1,t,v,f,z9,hm,o,nd,nf,dj=>by
  obtain⟨w,r,f1,f2,h1,h2,h3,h4⟩:=z9;subst h1 h2;have ic:=ze.mp nd;obtain⟨fw,q1,q2,q3⟩:_:=aV.setAt h4 (Nat.lt_of_succ_lt_succ hm) o ic.2.1 nf λa ha z=>dj a ha (l7 _ z)
  refine⟨f1++fw,⟨w,_,f1,fw,rfl,rfl,h3,q1⟩,ze.mpr ⟨ic.1,q2,λa ha b hb e=>?_⟩,λa ha=>?_⟩
  ·grind
  ·grind
theorem ye {F:aS ι}{ρ:En}{pos:Pos}(j:Nat){p1 p2:Pos}(h : ρ[j]?=some (some (.ow us)))(hn:bB F nE ρ (ti n))(hm:dW us.length n=some m)(he:bB F e ρ t)(hN:∀i,(F.cx i).N[j]?=some x:=by intro _;rfl)(hv:∀i,iF (F.cx i).env.scope x:=by intro _;first|exact Or.inl rfl|exact Or.inr (Or.inl rfl)|exact Or.inr (Or.inr rfl))(hd:(x==("__debug__":Str))=false:=by decide)(hc:(x==("__classdict__":Str))=false:=by decide)(hs:∀i,swapsWithSole [.Subscript (.Name x p1) nE p2] e pos.line (F.cx i).env=pure false:=by intro _;rfl)(hw:∀i,swappedStores [.Subscript (.Name x p1) nE p2] e (F.cx i).env=pure none:=by intro _;rfl)(h1:∀i,(assignEach [.Subscript (.Name x p1) nE p2] (F.cx i).env).map (·.2)=[assign (.Subscript (.Name x p1) nE p2) (F.cx i).env]:=by intro _;rfl)(hps:∀i,PG (F.cx i) (.Subscript (.Name x p1) nE p2) (FP (dC j) (uE F nE) ER)):
  Rn F (.Assign [.Subscript (.Name x p1) nE p2] e pos) ρ (.nx (ρ.set j (some (.ow (us.set m t))))):=by
 obtain⟨τ,y,z⟩:_:=he;obtain⟨qQ,yn,zn⟩:_:=hn;refine⟨lM τ (FP (dC j) (uE F nE) ER),λi=>so (y i) (hps i) (hs i) (hw i) (h1 i),λD σ G0 H0 G H r k=>?_⟩;obtain⟨fp,r⟩:=r;refine z σ G H fp _ r.st.s r.own r.g λv1 G1 H1 f1 s1 o1 w1=>?_
 have r1:fj F.K G0 H0 G1 H1 ρ σ fp:=⟨r.st.trans s1,r.own.mono s1.g s1.h,r.own.off s1 r.g,r.n,r.d⟩
 obtain⟨l0,Ao,Ap,c1,c2,_⟩:=r1.mut h (.refl r1.st.s);refine⟨_,c1,qQ,yn,zn σ G1 H1 fp _ r1.st.s r1.own r1.g λvn G2 H2 f2 s2 o2 w2=>?_⟩;obtain⟨l,vs,fq,d1,d2,d3,d4,d5,d6,d7⟩:_:=r.mut h (s1.trans s2);rw[c1]at d1;cases d1;have hm':=(uz hm).2.1;have nf:∀a∈f1,a∉fq:=λa ha hb=>by
  obtain⟨u,hu⟩:=r.own.there a (d6 a hb);rw[w1.n a ha]at hu;cases hu
 obtain⟨fw,q1,q2,q3⟩:_:=d4.setAt hm' (o1.mono s2.g s2.h) d5 w1.d nf;refine⟨l0,vs,n,m,rfl,aO o2.2,d3,by rw[<- d4.length];exact hm,k σ G2 _ (d7 (us.set m t) (vs.set m v1) fw q1 q2 λa ha=>(q3 a ha).imp id λz=>⟨w1.n a z,?_⟩)⟩;cases q:G2 a with
 |none=>rfl
 |some u=>
  obtain⟨u',bp⟩:=o1.there a z;have:=s2.n a (w1.g a z) (by rw[q];exact λz=>nomatch z);rw[bp]at this;cases this
def aa9 (ta:TA):TE:=λσ H Q=>ta σ H λvs H1=>∃j:Int,vs=[.int j]/\∀p,H1 p=none->Q (.ref p) (upd H1 p (.bK 0 j))
section
theorem W6 (hg:Gl X "range")(hm:X.mg "range"=none)(ha:PA X [a] ta)(hs:starEach [a] X.env=[(false,eval a X.env)]:=by rfl):PE X (.Call (.Name "range" p) [a] [] pos) (aa9 ta):=by
 intro pins s σ H Q I h;refine Call_ (mU I hg hm boot_range (LH (aE (ha pos pins s σ H _ I h) λus s1 z9=>?_) hs rfl));obtain⟨vs,H1,I1,r1,q1⟩:=z9;obtain⟨j,e,q⟩:_:=q1;subst e;cases r1 with
 |cons r rr=>
  cases rr
  obtain⟨t,rfl⟩:=r;refine call_range_1 ⟨.ref _,_,I1.laid (t':=s1.toks+1+1) (λb ob q=>mf _ q) (br _) ?_,rfl,q _ (I1.aL.fresh (br _))⟩;exact⟨_,_,_,BS _ rfl⟩
theorem UO (hc:X.calm=true):eY X (.type "list") (λxs H Q=>∃p n,xs=[.ref p]/\H p=some (.bK 0 n)/\0<=n/\n<2^20/\∀l,H l=none->Q (.ref l) (upd H l (.lst ((List.range n.toNat).map λi=>.int (0+((i:Nat):Int)))))):=by
 intro pins s σ H xs us Q I r h;obtain⟨p,n,rfl,hH,h0,h1,q⟩:_:=h;obtain⟨u,rfl,rx⟩:=vals1 r;cases rx;obtain⟨t,u,v,e⟩:=(show iw X.prog X.w H s.heap p (.bK 0 n)from I.aL p _ hH)
 have ab9:Builtin.Range.rangeSize 0 n 1=(n.toNat):=by rw[rangeSize_pos 'Q' h0];lia
 refine call_list_range (n:=n.toNat) (I.ok.hd hc) e (V9 h0 'O' 'Q' 'Q') ab9 'O' λh' tk gM c' kp e' it=>?_
 refine⟨.ref s.heap.objs.size,_,I.laid (t':=tk) kp (br _) ?_,rfl,q _ (I.aL.fresh (br _))⟩;have hs:sizeLine=16777216:=afW;refine⟨by grind,gM.toList,c',?_,'Z'⟩;obtain⟨i1,i2⟩:=it;have gen:∀(l) (k),(∀j v,l[j]?=some v->∃t,v=Value.int (0+((k+j:Nat):Int)) t)->Vals ((List.range l.length).map λi=>V.int (0+((k+i:Nat)))) l:=by
  intro l
  induction l with
  |nil=>intro k _;exact .nil
  |cons a l ih=>
   intro k hk;rw[ID,aeT,JJ,i4];obtain⟨t,ht⟩:=hk 0 a rfl;refine .cons ⟨t,by rw[ht]⟩ ?_;have:=ih (k+1) (λj v hj=>by
    obtain⟨t,ht⟩:=hk (j+1) v hj
    grind)
   refine(List.map_congr_left λi _=>?_)▸this
   grind
 have g0:=gen gM.toList 0 λj v hj=>by
  simp_all
 simp_all
def acZ (K:Frag):List V->Hp->VK->Prop:=λxs H Q=>∃(p:adV) (bs:List Bool),xs=[.ref p]/\aM K H p (bs.map V.bl)/\Q (.bl (bs.any id)) H
theorem range_any (bs:List Bool):((List.range bs.length).any λi=>(bs[i]?).getD false)=bs.any id:=by
 have:=congrArg (λl:List Bool=>l.any id) (Ja bs false id)
 simp_all
theorem XX (hc:X.calm=true):eY X (.builtin "any") (acZ X.K):=by
 intro pins s σ H xs us Q I r h;obtain⟨p,bs,rfl,hq,q⟩:_:=h;cases r with
 |cons r1 rr=>
  cases rr
  cases r1
  obtain⟨its,rv,pl,hz⟩:_:=I.list hq;have hb:=XO rv;have hl:=pl.isList;have bD:p<s.heap.objs.size:=by obtain⟨_,e,_⟩:=hl;exact nt e
  refine call_any_walk (afO hl ?_);refine⟨s.heap.objs.size,[s.heap.objs.size,p],[s.heap.objs.size],its.toArray.size,_,_,λi=>(bs[i]?).getD false,rfl,Walks.list (A:=X.A.in1) (I.ok.hd hc) _ p (AN bD) its.toArray,
   ⟨⟨_,BS _ rfl,rfl,rfl⟩,hl.push _⟩,λi v s' Q' E' hP hQ=>?_,λh' tk hk=>?_⟩
  ·obtain⟨b,e,rfl⟩:=hb.get i v 'J';simp[e]at hQ;exact YO hQ
  ·have e:((List.range its.toArray.size).any λi=>(bs[i]?).getD false)=bs.any id:=by
    rw[Cn,hb.length];exact range_any bs
   rw[e];exact⟨.bl _,H,I.kept (t':=tk) (LSm.kept_iter hk),rfl,q⟩
def unlike (ns:LI):Nat:=(firstMet (λi=>ns.getD i 0) ns.length).length
theorem UP (hc:X.calm=true):eY X (.type "set") (λxs H Q=>∃(p:adV) (ns:LI),xs=[.ref p]/\aM X.K H p (ns.map V.int)/\ns.length<1000/\∀l S,H l=none->Q (.ref l) (upd H l (.set S (unlike ns)))):=by
 intro pins s σ H xs us Q I r h;obtain⟨p,ns,rfl,hq,hz,q⟩:_:=h;obtain⟨u,rfl,rx⟩:=vals1 r;cases rx;obtain⟨its,rv,pl,_⟩:_:=I.list hq;have hi:=intsAre_of rv;have hl:=rv.length;rw[aa]at hl;refine call_set_list (I.ok.hd hc) pl.isList 'Z' (by rw[Cn,<- hl];exact zd (Nat.succ_lt_succ hz) 'Q') λh' tk hs kp=>?_
 have cT:its.toArray.size=ns.length:='J'
 rw[cT]at hs;exact⟨.ref s.heap.objs.size,_,I.laid (t':=tk) (o:=.set _ (unlike ns)) (λb o e=>kp b o (nt e) e) (br _) hs,rfl,q _ _ (I.aL.fresh (br _))⟩
theorem UQ:eY X (.builtin "len") (λxs H Q=>∃p S n,xs=[.ref p]/\H p=some (.set S n)/\Q (.int n) H):=by
 intro pins s σ H xs us Q I r h;obtain⟨p,S,n,rfl,hH,q⟩:_:=h;obtain⟨u,rfl,rx⟩:=vals1 r;cases rx;obtain⟨o,es,ep,t,h1,h2,h3,_,_,h4,h5,h6⟩:_:=(I.aL p _ hH)
 subst h6;refine call_len_set h1 h2 h3 h5 (by have:es.size<4096:=h4;lia) ⟨.int _,H,I.tok _,⟨_,rfl⟩,q⟩
theorem Vm (h:ns.Nodup):unlike ns=ns.length:=by
 have gen:∀i,i<=ns.length->firstMet (λi=>ns.getD i 0) i=ns.take i:=by
  intro i
  induction i with
  |zero=>intro _;rw[firstMet_zero];simp
  |succ i ih=>
   intro hi;rw[firstMet_succ,ih 'O'];have hx:ns[i]?=some (ns[i]'(by lia)):=ab _;rw[kc hx];have e:ns.getD i 0=ns[i]'(by lia):=by rw[ir,hx];rfl
   rw[e];unfold step_dedup;have:((ns.take i).any (·==ns[i]'(by lia)))=false:=by
    rw[Bool.eq_false_iff];intro z;obtain⟨y,hy,hyy⟩:=List.any_eq_true.mp z;have fY:y=ns[i]'(by lia):=by simpa using hyy
    subst fY;obtain⟨j,hj,Rk⟩:=List.mem_iff_getElem.mp hy;rw[aeV]at Rk;rw[Lm]at hj;have:=(List.getElem_inj h).mp Rk;lia
   rw[this]
   rfl
 unfold unlike;rw[gen ns.length (br _),aef]
theorem Vn:eY X (.builtin "sorted") (λxs H Q=>∃(p:adV) (ns:LI),xs=[.ref p]/\aM X.K H p (ns.map V.int)/\ns.length<64/\∀(l:adV) (ms:LI),H l=none->ms.Perm ns->ms.Pairwise (· <= ·)->Q (.ref l) (upd H l (.lst (ms.map V.int)))):=by
 intro pins s σ H xs us Q I r h;obtain⟨p,ns,rfl,hq,hz,q⟩:=h;obtain⟨u,rfl,rx⟩:=vals1 r;cases rx;obtain⟨its,rv,pl,gD⟩:=I.list hq;have hl:=rv.length;rw[aa]at hl;refine sorted_ints pl.isList (intsAre_of rv) 'Z' λout ms io pm pw=>?_
 obtain⟨e,he⟩:=sortedAll_at s.heap its out;refine⟨.ref (s.heap.objs.size+1),_,I.laid (t':=s.toks) (o:=.lst (ms.map V.int)) (λb o e=>sortedAll_old e) (ad8 _) ?_,rfl,q _ ms (I.aL.fresh (ad8 _)) pm pw⟩;refine⟨by rw[aa,pm.length_eq];rw[aa]at gD;exact gD,out.toList,e,B2 io,by rw[aff];exact he⟩
def abb (K:Frag):V->List V->Hp->VK->Prop:=λx vs H Q=>∃(l:adV) (ns:LI) (n:Int),x=.ref l/\vs=[.int n]/\aM K H l (ns.map V.int)/\n∈ns/\Q (.int (ns.idxOf n:Nat)) H
theorem XY:Ag X "list.index" (abb X.K):=by
 intro pins s σ H x vs v us Q I rx rv h;obtain⟨l,ns,n,rfl,rfl,hq,hn,q⟩:_:=h;cases rx;obtain⟨u,rfl,ru⟩:=rv.one;obtain⟨t,rfl⟩:=ru;obtain⟨its,r,pl,hz⟩:_:=I.list hq;have hi:=intsAre_of r;have hlen:=hi.length;have hs:=afW;rw[aa]at hz;obtain⟨⟨cls,dd,data,sl⟩,ho,hc,m,hd⟩:_:=id pl.isList;subst hc hd;have hj:=Nl.mpr hn;refine afo PySem.F.slot_list_index ⟨_,ho,rfl⟩ PySem.F.entry_list_index (PySem.F.args_list_index_2 _ _)
  (SeqAt.list_indexAt l its.toArray m dd sl (.int n t) (isInt n) (ns.idxOf n) 'J' 'O' ?_ ?_) ⟨ho,λy hy=>(eq_isInt n t hi y 'J').at _ _,⟨.int _,H,I.tok _,⟨_,rfl⟩,q⟩⟩
 ·show isInt n its[ns.idxOf n]=true;rw[isInt_at n hi _ 'Z' hj]
  simp_all
 ·intro j gT bD;show isInt n its[j]=false;rw[isInt_at n hi j 'Z' 'O'];exact ne_of_lt_idxOf bD _
end
section
variable {F:aS ι}{ρ:En}{pos:Pos}
theorem mQ (l:LI):(l.map di).map Tr.fz=l.map λn=>Tr.fz (di n):='J'
theorem xM {n:Int}(hm:F.mg "list"=none)(i7:F.mg "range"=none)(ha:Ev F a ρ (ti n))(h0 : 0<=n)(h1:n<2^20){p1 p2 kz:Pos}(hg:∀i,Gl (F.cx i) "list":=by intro _;rfl)(jF:∀i,Gl (F.cx i) "range":=by intro _;rfl)(hs:∀i,starEach [a] (F.cx i).env=[(false,eval a (F.cx i).env)]:=by intro _;rfl)(dq:∀i,starEach [.Call (.Name "range" p2) [a] [] kz] (F.cx i).env=[(false,eval (.Call (.Name "range" p2) [a] [] kz) (F.cx i).env)]:=by intro _;rfl):
  Ev F (.Call (.Name "list" p1) [.Call (.Name "range" p2) [a] [] kz] [] pos) ρ (.ow (((List.range n.toNat).map λi=>(0+((i:Nat):Int))).map λn=>.fz (di n))):=by
 obtain⟨τ,p,q⟩:_:=ha.use;refine⟨_,λi=>xS (UO (F.calm i)) (hg i) ((F.hm i).symm▸hm) rP (cm (W6 (jF i) ((F.hm i).symm▸i7) (cm (p i) cR (hs i)) (hs i)) cR (dq i)) 'Q' 'Q' (dq i) rfl,λσ G H Q s rr k=>q σ G H _ s rr λx G1 H1 s1 hx=>?_⟩;refine⟨n,by rw[aO hx],λp0 Rl=>⟨p0,n,rfl,bQ,h0,h1,λl hl=>?_⟩⟩;have k2:=k.step (s1.trans (Step.jR (o:=.bK 0 n) s1.s Rl));have e:((List.range n.toNat).map λi=>V.int (0+((i:Nat):Int)))=((List.range n.toNat).map λi=>(0+((i:Nat):Int))).map V.int:=by rw[i4];rfl
 rw[e];refine k2.lst (s1.s.trans (aj.new Rl)) ?_ hl;rw[<- mQ];exact j9.jD
theorem Nc {bs:List Bool}(hm:F.mg "any"=none)(ha:Ev F e ρ ta)(ea:er ta=.lst (bs.map db)){p':Pos}(hg:∀i,Gl (F.cx i) "any":=by intro _;rfl)(hs:∀i,starEach [e] (F.cx i).env=[(false,eval e (F.cx i).env)]:=by intro _;rfl):Ev F (.Call (.Name "any" p') [e] [] pos) ρ (tb (bs.any id)):=
 rK (λi=>F.hK i▸XX (F.calm i)) hm aa1 (ag ha ak hs) (λG H vs Q s hx k=>by
  obtain⟨x,rfl,dE⟩:=iA hx;rw[ea]at dE;obtain⟨l,ys,rfl,h1,h2⟩:=dE;have:=JD h2;subst this;exact⟨l,bs,rfl,s.seq h1,k.sc s rfl⟩) hg 'Q' 'Q' hs (λ_=>rfl)
theorem Nf:bootBuiltins "set"=some (.type "set"):='W'
theorem W7 (hm:F.mg "len"=none)(i7:F.mg "set"=none)(ha:Ev F a ρ ta)(ea:er ta=dis ns)(hz:ns.length<1000){p1 p2 kz:Pos}(hg:∀i,Gl (F.cx i) "len":=by intro _;rfl)(jF:∀i,Gl (F.cx i) "set":=by intro _;rfl)(hs:∀i,starEach [a] (F.cx i).env=[(false,eval a (F.cx i).env)]:=by intro _;rfl)(dq:∀i,starEach [.Call (.Name "set" p2) [a] [] kz] (F.cx i).env=[(false,eval (.Call (.Name "set" p2) [a] [] kz) (F.cx i).env)]:=by intro _;rfl):
  Ev F (.Call (.Name "len" p1) [.Call (.Name "set" p2) [a] [] kz] [] pos) ρ (ti (unlike ns:Nat)):=by
 obtain⟨τ,p,q⟩:_:=ha.use;refine⟨lZ _ (dH (lZ (λxs H Q=>∃(p:adV) (ns:LI),xs=[.ref p]/\aM F.K H p (ns.map V.int)/\ns.length<1000/\∀l S,H l=none->Q (.ref l) (upd H l (.set S (unlike ns)))) (dH τ d8)) d8),λi=>um UQ (hg i) ((F.hm i).symm▸hm) MR (cm (xS (F.hK i▸UP (F.calm i)) (jF i) ((F.hm i).symm▸i7) Nf (cm (p i) cR (hs i)) 'Q' 'Q' (hs i) rfl) cR (dq i)) 'Q' 'Q' (dq i) rfl,λσ G H Q s rr k=>q σ G H _ s rr λx G1 H1 s1 hx=>?_⟩;rw[ea]at hx;obtain⟨l,ys,rfl,h1,h2⟩:_:=hx;have:=mH h2;subst this;refine⟨l,ns,rfl,s1.s.seq h1,hz,λl0 S oO=>⟨l0,S,_,rfl,bQ,?_⟩⟩;exact(k.step (s1.trans (Step.jR s1.s oO))).sc (s1.s.trans (aj.new oO)) rfl
def sortI (ns:LI):LI:=ns.mergeSort (λa b=>decide (a<=b))
theorem sortI_perm (ns:LI):(sortI ns).Perm ns:=List.mergeSort_perm ..
theorem Kb (ns:LI):(sortI ns).Pairwise (· <= ·):=by
 have:=List.pairwise_mergeSort (le:=λa b:Int=>decide (a<=b)) (λa b c h1 h2=>by simp only[LM]at *;omega) (λa b=>by simp only[af7,LM];omega) ns;exact this.imp λh=>by simpa using h
theorem Jj {a b:LI}(p:a.Perm b)(ha:a.Pairwise (· <= ·))(hb:b.Pairwise (· <= ·)):a=b:=List.Perm.eq_of_pairwise (λx y _ _ h1 h2=>af9 h1 h2) ha hb p
theorem W8 {ns:LI}(hm:F.mg "sorted"=none)(ha:Ev F e ρ ta)(ea:er ta=dis ns)(hz:ns.length<64){p':Pos}(hg:∀i,Gl (F.cx i) "sorted":=by intro _;rfl)(hs:∀i,starEach [e] (F.cx i).env=[(false,eval e (F.cx i).env)]:=by intro _;rfl):Ev F (.Call (.Name "sorted" p') [e] [] pos) ρ (.ow ((sortI ns).map λn=>.fz (di n))):=
 rK (r:=λxs H Q=>∃(p:adV) (ns:LI),xs=[.ref p]/\aM F.K H p (ns.map V.int)/\ns.length<64/\∀(l:adV) (ms:LI),H l=none->ms.Perm ns->ms.Pairwise (· <= ·)->Q (.ref l) (upd H l (.lst (ms.map V.int)))) (λi=>F.hK i▸Vn) hm B3 (ag ha ak hs) (λG H vs Q s hx k=>by
  obtain⟨x,rfl,dE⟩:=iA hx;rw[ea]at dE;obtain⟨l,ys,rfl,h1,h2⟩:=dE;have:=mH h2;subst this;refine⟨l,ns,rfl,s.seq h1,hz,λl0 ms oO pm pw=>?_⟩;have em:ms=sortI ns:=Jj (pm.trans (sortI_perm ns).symm) pw (Kb ns);subst em;refine k.lst s ?_ oO;rw[<- mQ];exact j9.jD) hg 'Q' 'Q' hs (λ_=>rfl)
theorem yf (ho:Ev F o ρ to)(eo:er to=dis ns)(ha:Ev F e ρ (ti n))(hn:n∈ns){apos:Pos}(jl:∀i,attributeBase o "index" (F.cx i).env (eval o (F.cx i).env)=eval o (F.cx i).env:=by intro _;rfl)(jt:∀i,((backTo pos (starEach [e] (F.cx i).env)).all (λx=>!x.1)&&(backToKw pos (keywordEach [] (F.cx i).env)).all (λx=>x.1.isSome)&&decide (([e]:List Expr).length+([]:List Keyword).length+(if([]:List Keyword).isEmpty then 0 else 1)<30))=true:=by intro _;rfl)(hline:(apos.endLine==pos.line)=true:=by rfl)(hs:∀i,starEach [e] (F.cx i).env=[(false,eval e (F.cx i).env)]:=by intro _;rfl):Ev F (.Call (.Attribute o "index" apos) [e] [] pos) ρ (ti (ns.idxOf n:Nat)):=
 ab7 PySem.F.slot_list_index PySem.F.type_list_index (λi=>F.hK i▸XY) ho eo (ag ha ak hs) (λG H x vs Q s hx hv k=>by
  rw[eo]at hx;obtain⟨l,us,rfl,h1,h2⟩:=hx;have:=mH h2;subst this;obtain⟨y,rfl,hy⟩:=iA hv;exact⟨l,ns,n,rfl,by rw[aO hy],s.seq h1,hn,k.sc s rfl⟩) jl jt hline hs (λ_=>rfl)
theorem abd {v:V}{j:Nat}{p':Pos}(ha:Ev F a ρ (.fz (.fl v))):Et F (.Compare a [.Is] [.Constant .none j p'] pos) ρ (decide (v=.aW)):=
 jh (λ_=>MJ) ha MT (λG H x y Q s hx hy k=>⟨aO hy,by rw[aO hx];exact k⟩) (fN _)
theorem aV.erase {K:Frag}:∀{us:List Tr} {vs:List V} {fq:List adV} {m:Nat} {u:Tr},aV K G H us vs fq->us[m]?=some u->fq.Nodup->∃v f fw,vs[m]?=some v/\Ow K G H u v f/\aV K G H (us.eraseIdx m) (vs.eraseIdx m) fw/\fw.Nodup/\f.Nodup/\(∀a∈fw,a∈fq)/\(∀a∈f,a∈fq)/\∀a∈f,a∉fw
 |t::us,_,_,0,u,z9,hu,nd=>by
  obtain⟨v,r,f1,f2,h1,h2,h3,h4⟩:=z9;cases hu;subst h1 h2;have ic:=ze.mp nd;exact⟨v,f1,f2,rfl,h3,h4,ic.2.1,ic.1,λa ha=>l7 _ ha,λa ha=>xy _ ha,λa ha hb=>ic.2.2 a ha a hb rfl⟩
 |t::us,_,_,m+1,u,z9,hu,nd=>by
  obtain⟨v,r,f1,f2,h1,h2,h3,h4⟩:=z9;subst h1 h2;have ic:=ze.mp nd;obtain⟨v',f,fw,q1,q2,q3,q4,q5,q6,q7,q8⟩:_:=aV.erase h4 hu ic.2.1;refine⟨v',f,f1++fw,q1,q2,⟨v,_,f1,fw,rfl,rfl,h3,q3⟩,ze.mpr ⟨ic.1,q4,λa ha b hb e=>ic.2.2 a ha b (q6 b hb) e⟩,q5,λa ha=>?_,λa ha=>l7 _ (q7 a ha),λa ha hb=>?_⟩
  ·obtain z|z:=qr.mp ha
   ·exact xy _ z
   ·exact l7 _ (q6 a z)
  ·obtain z|z:=qr.mp hb
   ·exact ic.2.2 a z a (q7 a ha) rfl
   ·exact q8 a ha z
theorem UR (j j2:Nat){y:Str}{p1 p2 p3 p4 p5 p6:Pos}(qR:j≠j2)(h : ρ[j]?=some (some (.ow us)))(h2 : ρ[j2]?=some (some (.ow ws)))(hn:bB F nE ρ (ti n))(hm:dW ws.length n=some m)(hb : -(2^62)<=n/\n<2^62)(hu:ws[m]?=some (.fz d))(hz:us.length<sizeLine)(hN:∀i,(F.cx i).N[j]?=some x:=by intro _;rfl)(wD:∀i,(F.cx i).N[j2]?=some y:=by intro _;rfl)(hv:∀i,iF (F.cx i).env.scope x:=by intro _;first|exact Or.inl rfl|exact Or.inr (Or.inl rfl)|exact Or.inr (Or.inr rfl))(wG:∀i,iF (F.cx i).env.scope y:=by intro _;first|exact Or.inl rfl|exact Or.inr (Or.inl rfl)|exact Or.inr (Or.inr rfl))(hd:(x==("__debug__":Str))=false:=by decide)(hc:(x==("__classdict__":Str))=false:=by decide)(hd2:(y==("__debug__":Str))=false:=by decide)(qS:(y==("__classdict__":Str))=false:=by decide)(jl:∀i,attributeBase (.Name x p1) "append" (F.cx i).env (eval (.Name x p1) (F.cx i).env)=eval (.Name x p1) (F.cx i).env:=by intro _;rfl)(D3:∀i,attributeBase (.Name y p4) "pop" (F.cx i).env (eval (.Name y p4) (F.cx i).env)=eval (.Name y p4) (F.cx i).env:=by intro _;rfl)(jt:∀i,((backTo p3 (starEach [.Call (.Attribute (.Name y p4) "pop" p5) [nE] [] p6] (F.cx i).env)).all (λx=>!x.1)&&(backToKw p3 (keywordEach [] (F.cx i).env)).all (λx=>x.1.isSome)&&decide (([.Call (.Attribute (.Name y p4) "pop" p5) [nE] [] p6]:List Expr).length+([]:List Keyword).length+(if([]:List Keyword).isEmpty then 0 else 1)<30))=true:=by intro _;rfl)(Fc:∀i,((backTo p6 (starEach [nE] (F.cx i).env)).all (λx=>!x.1)&&(backToKw p6 (keywordEach [] (F.cx i).env)).all (λx=>x.1.isSome)&&decide (([nE]:List Expr).length+([]:List Keyword).length+(if([]:List Keyword).isEmpty then 0 else 1)<30))=true:=by intro _;rfl)(hline:(p2.endLine==p3.line)=true:=by rfl)(Ea:(p5.endLine==p6.line)=true:=by rfl)(hs:∀i,starEach [.Call (.Attribute (.Name y p4) "pop" p5) [nE] [] p6] (F.cx i).env=[(false,eval (.Call (.Attribute (.Name y p4) "pop" p5) [nE] [] p6) (F.cx i).env)]:=by intro _;rfl)(dq:∀i,starEach [nE] (F.cx i).env=[(false,eval nE (F.cx i).env)]:=by intro _;rfl)(kQ:∀i,swapsWith (.Call (.Attribute (.Name x p1) "append" p2) [.Call (.Attribute (.Name y p4) "pop" p5) [nE] [] p6] [] p3) none pos.line (F.cx i).env=pure false:=by intro _;rfl):
  Rn F (.Expr (.Call (.Attribute (.Name x p1) "append" p2) [.Call (.Attribute (.Name y p4) "pop" p5) [nE] [] p6] [] p3) pos) ρ (.nx ((ρ.set j2 (some (.ow (ws.eraseIdx m)))).set j (some (.ow (us++[.fz d]))))):=by
 obtain⟨qQ,yn,zn⟩:_:=hn;refine⟨pO (nD F.K "list" yu (dC j) (dH (nD F.K "list" DN (dC j2) (dH qQ d8)) d8)),λi=>lr (F.hK i▸lF GG YA YE oY (kj (hN i) (hv i) hd hc) (cm (lF GG PySem.F.slot_list_pop PySem.F.type_list_pop JW (kj (wD i) (wG i) hd2 qS) (cm (yn i) cR (dq i)) (D3 i) (Fc i) Ea (dq i) rfl) cR (hs i)) (jl i) (jt i) hline (hs i) rfl) (kQ i),λD σ G0 H0 G H r k=>?_⟩;obtain⟨fp,r⟩:=r;obtain⟨l0,Ao,Ap,c1,c2,_⟩:_:=r.mut h (.refl r.st.s);obtain⟨l2,vs2,Rm,e1,e2,_⟩:=r.mut h2 (.refl r.st.s);refine⟨_,c1,.inl ⟨rfl,_,aM.of c2⟩,_,e1,.inl ⟨rfl,_,aM.of e2⟩,?_⟩;refine zn σ G H fp _ r.st.s r.own r.g λvn G1 H1 f1 s1 o1 w1=>?_
 obtain⟨l,vs,fq,d1,d2,d3,d4,d5,d6,d7⟩:_:=r.mut h2 s1;rw[e1]at d1;cases d1;obtain⟨v,f,fw,g1,g2,g3,g4,g5,g6,g7,g8⟩:_:=d4.erase hu d5;obtain⟨rfl,lY⟩:=g2;obtain⟨Hh,ix2,ix3,ix4⟩:=uz hm;refine⟨l2,vs,n,m,v,rfl,by rw[aO o1.2],d3,'O','O',by rw[<- d4.length];exact Hh,g1,?_⟩;have r2:=d7 (ws.eraseIdx m) (vs.eraseIdx m) fw g3 g4 λa ha=>.inl (g6 a ha)
 obtain⟨fp2,r2⟩:=r2;have oP:(ρ.set j2 (some (.ow (ws.eraseIdx m))))[j]?=some (some (.ow us)):=by rw[EU (ad7 qR)];exact h
 obtain⟨l3,Ro,fq3,b1,b2,b3,b4,b5,b6,b7⟩:_:=r2.mut oP (.refl r2.st.s);rw[c1]at b1;cases b1;refine⟨l0,Ro,v,rfl,rfl,b2,by rw[<- b4.length];exact hz,k σ G1 _ ?_⟩;exact b7 (us++[.fz d]) (Ro++[v]) (fq3++([]++[])) (b4.append (us:=[.fz d]) ⟨v,[],[],[],rfl,rfl,⟨rfl,lY⟩,rfl,rfl⟩) (by simpa using b5) λa ha=>.inl (by simpa using ha)
end
theorem lz {k:Nat}(h:(gL xs)[k]?=some d):∃x,xs[k]?=some x/\d=.tup [di (k:Nat),x]:=by
 unfold gL at h;rw[Pd]at h;cases hx:xs[k]? with
 |none=>
  rw[hx]at h;cases q2:(List.range xs.length)[k]? with
  |none=>rw[q2]at h;cases h
  |some z=>rw[q2]at h;cases h
 |some x=>
  have lj:=(gz.mp hx).1;rw[hx,IF lj]at h;cases h;exact⟨x,rfl,rfl⟩
theorem lA (xs:List Dv):(gL xs).length=xs.length:=by grind [gL]
theorem pJ {α:Type}(l:List α)(f : α->Int):er (.ow (l.map λk=>Tr.fz (di (f k))))=dis (l.map f):=by
 show Dv.lst _=Dv.lst _;rw[pC,i4,i4];rfl
abbrev aA (l:LI):Tr:=.ow (l.map λn=>.fz (di n))
abbrev jm (L:LL):Tr:=.ow (L.map aA)
theorem bP (l:LI):er (aA l)=dis l:=by
 show Dv.lst _=_;rw[pC,i4];rfl
theorem nV (L:LL):er (jm L)=.lst (L.map dis):=by
 show Dv.lst _=_;rw[pC,i4];congr 1;exact List.map_congr_left λl _=>bP l
theorem XZ (L:LL):iK (.lst (L.map dis))=true:=yy Dg L
theorem Kc (L:LL):de (.lst (L.map dis))<=2:=rR λd hd=>by
 obtain⟨m,_,rfl⟩:=i8.mp hd;exact lu m
def fF (c:LI)(os:LL):Dv:=.tup [dis c,.lst (os.map dis)]
theorem Zc (c:LI)(os:LL):iK (fF c os)=true:=by
 show(iK (dis c)&&(iK (.lst (os.map dis))&&true))=true;rw[Dg,XZ];rfl
theorem Zd (c:LI)(os:LL):de (fF c os)<=3:=Zb λd hd=>by
 obtain rfl|hd:=ff.mp hd
 ·exact Cs (lu c) 'Q'
 ·rw[BB.mp hd];exact Kc os
def jn (n:Nat)(o:LI):LI:=((List.range n).filter λk=>!o.contains (0+((k:Nat):Int))).map λk=>0+((k:Nat):Int)
def aG (n:Nat)(o:LI):LI:=o++[(n:Int)]++jn n o
theorem B7 (n:Nat)(o:LI):(jn n o).length<=n:=by
 unfold jn
 grind
structure eK (c:LI) (os:LL):Prop where
 c6:c.length<=6
 cnt:∀x∈c,0<=x/\x<=9
 o1 : 1<=os.length
 o6:os.length<=6
 nd:∀o∈os,o.Nodup
 bK:∀o∈os,∀x∈o,0<=x/\x<c.length
theorem B8 {n:Nat}{l:LI}(nd:l.Nodup)(h:∀x∈l,0<=x/\x<n):l.length<=n:=by
 have sub:l ⊆ (List.range n).map λk=>((k:Nat)):=λx hx=>by
  obtain⟨h0,h1⟩:=h x hx;exact i8.mpr ⟨x.toNat,l9.mpr 'O','O'⟩
 have:=nd.length_le_of_subset sub
 simp_all
theorem eK.gN {os:LL}(h:eK c os)(ho:o∈os):o.length<=6:=Cs (B8 (h.nd o ho) (h.bK o ho)) h.c6
theorem bb.to {F:aS ι}(h:bb F tg iter ρ a)(e:a=b):bb F tg iter ρ b:=e▸h
theorem Jp {α:Type}:∀{l:List α} {m:Nat} (h:m<l.length),(l[m]::l.eraseIdx m).Perm l
 |x::l,0,_=>.refl _
 |x::l,m+1,h=>by
  have h':m<l.length:='J'
  exact(List.Perm.swap ..).trans ((Jp h').cons x)
theorem B9 {α β:Type}(f : α->β):∀(l:List α) m,(l.map f).eraseIdx m=(l.eraseIdx m).map f
 |[],_=>rfl
 |_::_,0=>rfl
 |x::l,m+1=>by
  show f x::(l.map f).eraseIdx m=f x::(l.eraseIdx m).map f;rw[B9 f l m]
theorem Lk {F:aS ι}(ha:Ev F a ρ (ti i))(hb:Ev F b ρ (ti j))(hc:zL i j):Ev F (.BinOp a .Mult b pos) ρ (ti (i*j)):=oe (λ_=>aaP) ha hb λG H x y Q s hx hy k=>⟨i,j,aO hx,aO hy,hc,k.sc s rfl⟩
theorem X0 {F:aS ι}(f:Fg ρ1 ρ2):bt F [] ρ1 (.nx ρ2):=bt.fg mN f
section
variable {F:aS ι}{ρ:En}{pos:Pos}
theorem fj.move {K:Frag}(r:fj K G0 H0 G H ρ σ fp)(qR:j≠j2)(h : ρ[j]?=some (some (.ow us)))(h2 : ρ[j2]?=some (some t)):
  ∃l vs v,σ[j]?=some (some (.ref l))/\σ[j2]?=some (some v)/\H l=some (.lst vs)/\us.length=vs.length/\RS K G0 H0 G (upd H l (.lst (vs++[v]))) ((ρ.set j2 none).set j (some (.ow (us++[t])))) σ:=by
 obtain⟨v2,f2,fr2,a1,a2,a3,a4⟩:_:=r.own.split h2;obtain⟨v,f,fr,b1,b2,b3,b4⟩:_:=a3.split (by rw[EU (ad7 qR)];exact h);obtain⟨l,vs,fq,rfl,hl,ol,rfl⟩:_:=b2;have pm:=a4.trans (NH _ b4);have nd:=pm.nodup_iff.mp r.d;have Au:=ze.mp nd;have Av:=ze.mp Au.2.1;have nd3:=AE.mp Av.1;have lf2:=λz=>Au.2.2 l z l (xy _ (.head _)) rfl
 have lfr:=λz=>Av.2.2 l (.head _) l z rfl
 have Rp:=pm.mem_iff.mpr (l7 _ (xy _ (.head _)));have lt:j<(ρ.set j2 none).length:=by
  rw[PM];obtain z|z:=EM j ρ.length
  ·exact z
  ·rw[Mc z]at h;cases h
 have own:Ow K G (upd H l (.lst (vs++[v2]))) (.ow (us++[t])) (.ref l) (l::(fq++(f2++[]))):=
  ⟨l,vs++[v2],fq++(f2++[]),rfl,bQ,(ol.frame nd3.1).append ⟨v2,[],f2,[],rfl,rfl,a2.frame lf2,rfl,rfl⟩,rfl⟩
 obtain⟨hW,p1,p2⟩:_:=(b3.frame lfr).put (t9 lt) own;rw[afy,yc b1]at p1;have Hi:hW.Perm fp:=by
  refine p2.trans (List.Perm.trans ?_ pm.symm);rw[AS];have:((l::(fq++f2))++fr).Perm ((f2++(l::fq))++fr):=SI fr (by
   show((l::fq)++f2).Perm (f2++(l::fq));exact adm)
  rw[CS]at this;exact this
 refine⟨l,vs,v2,b1,a1,hl,ol.length,hW,⟨r.st.g,λb u hb=>?_,λb u hb=>?_,r.st.n⟩,p1,λa ha=>r.g a (Hi.mem_iff.mp ha),λa ha=>r.n a (Hi.mem_iff.mp ha),Hi.nodup_iff.mpr r.d⟩
 ·have gR:=r.st.h b u hb;rw[aQ λz=>?_]
  ·exact gR
  ·subst z;rw[r.n _ Rp]at hb;cases hb
 ·have gR:=r.st.s b u hb;rw[aQ λz=>?_]
  ·exact gR
  ·subst z;rw[r.g _ Rp]at hb;cases hb
theorem Vo (j j2:Nat){y:Str}{p1 p2 p3 p4:Pos}(qR:j≠j2)(h : ρ[j]?=some (some (.ow us)))(h2 : ρ[j2]?=some (some t))(hz:us.length<sizeLine)(hN:∀i,(F.cx i).N[j]?=some x:=by intro _;rfl)(wD:∀i,(F.cx i).N[j2]?=some y:=by intro _;rfl)(hv:∀i,iF (F.cx i).env.scope x:=by intro _;first|exact Or.inl rfl|exact Or.inr (Or.inl rfl)|exact Or.inr (Or.inr rfl))(wG:∀i,iF (F.cx i).env.scope y:=by intro _;first|exact Or.inl rfl|exact Or.inr (Or.inl rfl)|exact Or.inr (Or.inr rfl))(hd:(x==("__debug__":Str))=false:=by decide)(hc:(x==("__classdict__":Str))=false:=by decide)(hd2:(y==("__debug__":Str))=false:=by decide)(qS:(y==("__classdict__":Str))=false:=by decide)(jl:∀i,attributeBase (.Name x p1) "append" (F.cx i).env (eval (.Name x p1) (F.cx i).env)=eval (.Name x p1) (F.cx i).env:=by intro _;rfl)(jt:∀i,((backTo p3 (starEach [.Name y p4] (F.cx i).env)).all (λx=>!x.1)&&(backToKw p3 (keywordEach [] (F.cx i).env)).all (λx=>x.1.isSome)&&decide (([.Name y p4]:List Expr).length+([]:List Keyword).length+(if([]:List Keyword).isEmpty then 0 else 1)<30))=true:=by intro _;rfl)(hline:(p2.endLine==p3.line)=true:=by rfl)(hs:∀i,starEach [.Name y p4] (F.cx i).env=[(false,eval (.Name y p4) (F.cx i).env)]:=by intro _;rfl)(kQ:∀i,swapsWith (.Call (.Attribute (.Name x p1) "append" p2) [.Name y p4] [] p3) none pos.line (F.cx i).env=pure false:=by intro _;rfl):
  Rn F (.Expr (.Call (.Attribute (.Name x p1) "append" p2) [.Name y p4] [] p3) pos) ρ (.nx ((ρ.set j2 none).set j (some (.ow (us++[t]))))):=by
 refine⟨pO (nD F.K "list" yu (dC j) (dH (dC j2) d8)),λi=>lr (F.hK i▸lF GG YA YE oY (kj (hN i) (hv i) hd hc) (cm (kj (wD i) (wG i) hd2 qS) cR (hs i)) (jl i) (jt i) hline (hs i) rfl) (kQ i),λD σ G0 H0 G H r k=>?_⟩;obtain⟨fp,r⟩:=r;obtain⟨l,vs,v,c1,c2,c3,c4,c5⟩:_:=r.move qR h h2;exact⟨_,c1,.inl ⟨rfl,_,aM.of c3⟩,_,c2,l,vs,v,rfl,rfl,c3,by rw[<- c4];exact hz,k σ G _ c5⟩
theorem X1 (l:List α)(a b:Nat):cutD l (some (a:Int)) (some (b:Int))=(l.drop (min a l.length)).take (min b l.length-min a l.length):=by
 rfl
theorem CD {α β:Type}(q : α->Bool)(h : α->β)(d : β):∀l:List α,((List.range l.length).filter λk=>((l[k]?).map q).getD false).map (λk=>((l[k]?).map h).getD d)=(l.filter q).map h
 |[] => rfl
 |a::l=>by
  have ih:=CD q h d l;rw[ID,aeT,aba,aba,afs];show List.map _ (if q a=true then _ else _)=_;cases q a with
  |true=>
   show h a::((_:List Nat).map Nat.succ).map _=h a::_;rw[i4,<- ih];rfl
  |false=>
   show((_:List Nat).map Nat.succ).map _=_;rw[i4];exact ih
theorem zS {α:Type}(l:List α)(g : α->Dv)(q : α->Bool)(h : α->Tr)(hi:bb F tg iter ρ (l.map g))(hg:ie (cz F own fr sc cl) tg js sp)(gT:∀j∈js,j<own.length)(hz:l.length<sizeLine)(step:∀a∈l,∃dd,sp (g a)=some dd/\El (cz F own fr sc cl) ifs (a7 js (dd.map .fz) (cH own fr ρ)) (q a)/\(q a=true->Ev (cz F own fr sc cl) elt (a7 js (dd.map .fz) (cH own fr ρ)) (h a)))(jO:∀dd:List Dv,jf js (a7 js (dd.map .fz) (cH own fr ρ))=cH own fr ρ):ig F own fr sc cl elt tg iter ifs ρ (.ow ((l.filter q).map h)):=by
 have:=Rb (ifs:=ifs) hi hg gT (λk=>((l[k]?).map q).getD false) (λk=>((l[k]?).map h).getD tn) 'J' (λk d hd=>by
  obtain⟨a,ha,rfl⟩:_:=gn hd;obtain⟨dd,s1,s2,s3⟩:_:=step a (ba ha);refine⟨dd,s1,?_,?_⟩
  ·simp_all
  ·rw[ha];exact s3) jO
 rw[aa,CD]at this;omega
theorem Qj {α:Type}(l:List α)(g : α->Dv)(h : α->Tr)(hi:bb F tg iter ρ (l.map g))(hg:ie (cz F own fr sc cl) tg js sp)(gT:∀j∈js,j<own.length)(hz:l.length<sizeLine)(step:∀a∈l,∃dd,sp (g a)=some dd/\Ev (cz F own fr sc cl) elt (a7 js (dd.map .fz) (cH own fr ρ)) (h a))(jO:∀dd:List Dv,jf js (a7 js (dd.map .fz) (cH own fr ρ))=cH own fr ρ):ig F own fr sc cl elt tg iter [] ρ (.ow (l.map h)):=by
 have:=zS l g (λ_=>true) h hi hg gT hz (λa ha=>by obtain⟨dd,s1,s2⟩:=step a ha;exact⟨dd,s1,sD,λ_=>s2⟩) jO;rwa [aea.mpr λ_ _=>rfl]at this
theorem sF {α:Type}(l:List α)(g : α->Dv)(q : α->Bool)(h : α->Tr)(L:∀i,iR (F.cx i) sc (cl i) fr)(hi:bb F tg iter ρ (l.map g))(hg:ie (cz F own fr sc cl) tg js sp)(gT:∀j∈js,j<own.length)(hz:l.length<sizeLine)(step:∀a∈l,∃dd,sp (g a)=some dd/\El (cz F own fr sc cl) ifs (a7 js (dd.map .fz) (cH own fr ρ)) (q a)/\(q a=true->Ev (cz F own fr sc cl) elt (a7 js (dd.map .fz) (cH own fr ρ)) (h a)))(jO:∀dd:List Dv,jf js (a7 js (dd.map .fz) (cH own fr ρ))=cH own fr ρ)(hs:∀i x,foldedSetIterable iter (F.cx i).env x=pure x:=by intro _ _;rfl):Ev F (.ListComp elt [⟨tg,iter,ifs,0⟩] sc pos) ρ (.ow ((l.filter q).map h)):=by
 have:=zr (ifs:=ifs) (pos:=pos) L hi hg gT (λk=>((l[k]?).map q).getD false) (λk=>((l[k]?).map h).getD tn) 'J' (λk d hd=>by
  obtain⟨a,ha,rfl⟩:_:=gn hd;obtain⟨dd,s1,s2,s3⟩:_:=step a (ba ha);refine⟨dd,s1,?_,?_⟩
  ·simp_all
  ·rw[ha];exact s3) jO hs
 rw[aa,CD]at this;omega
theorem fQ {α:Type}(l:List α)(g : α->Dv)(h : α->Tr)(L:∀i,iR (F.cx i) sc (cl i) fr)(hi:bb F tg iter ρ (l.map g))(hg:ie (cz F own fr sc cl) tg js sp)(gT:∀j∈js,j<own.length)(hz:l.length<sizeLine)(step:∀a∈l,∃dd,sp (g a)=some dd/\Ev (cz F own fr sc cl) elt (a7 js (dd.map .fz) (cH own fr ρ)) (h a))(jO:∀dd:List Dv,jf js (a7 js (dd.map .fz) (cH own fr ρ))=cH own fr ρ)(hs:∀i x,foldedSetIterable iter (F.cx i).env x=pure x:=by intro _ _;rfl):Ev F (.ListComp elt [⟨tg,iter,[],0⟩] sc pos) ρ (.ow (l.map h)):=by
 have:=sF (pos:=pos) l g (λ_=>true) h L hi hg gT hz (λa ha=>by obtain⟨dd,s1,s2⟩:=step a ha;exact⟨dd,s1,sD,λ_=>s2⟩) jO hs;rwa [aea.mpr λ_ _=>rfl]at this
theorem fu {α:Type}(l:List α)(h : α->Tr):er (.ow (l.map h))=.lst (l.map λa=>er (h a)):=by
 show Dv.lst (fh _)=_;rw[pC,i4];rfl
end
end L2
namespace L2
open PySem PySem.Spec PyProof.Rows dA
section
variable {F:aS ι}{pos:Pos}
theorem CF (Fn:Kn F.P F.w F.K F.mg F.base bx k x f fd ps (spT F.K R))(B:Binds F.K fd ps [.int n tk])(hk:k<=F.room)(ha:jE F (e::es) ρ ts)(hR:R (fh ts++[di n]) t){p':Pos}(hg:∀i,Gl (F.cx i) x:=by intro _;rfl)(eE:(x==("__debug__":Str))=false:=by decide)(he:∀i,starEach (e::es) (F.cx i).env=(false,eval e (F.cx i).env)::starEach es (F.cx i).env:=by intro _;rfl)(cJ:∀i,(backTo pos (starEach es (F.cx i).env)).any (·.1)=false:=by intro _;rfl):Ev F (.Call (.Name x p') (e::es) [] pos) ρ t:=by
 obtain⟨τ,y,z⟩:_:=ha.use;refine⟨sR (spT F.K R) [.int n] E0 τ,λi=>?_,λσ G H Q s rr k=>z σ G H _ s rr λvs G1 H1 s1 hx=>?_⟩
 ·have jG:Kn (F.cx i).prog (F.cx i).w (F.cx i).K (F.cx i).mg (F.cx i).base bx k x f fd ps (spT F.K R):=by
   rw[F.hP i,F.hw i,F.hK i,F.hm i,F.hb i];omega
  exact KP jG.ok ((F.hr i).mono hk) (hg i) jG.Q3 jG.kp (by rw[F.hK i];exact B) (.cons ⟨tk,rfl⟩ .nil) m8 (y i) eE (he i) (cJ i)
 ·have app:∀{ds:List Dv} {vs:List V},aH F.K G1 ds vs->aH F.K G1 (ds++[di n]) (vs++[.int n]):=by
   intro ds
   induction ds with
   |nil=>intro vs h;have h':=h;subst h';exact⟨_,_,rfl,⟨rfl,rfl⟩,rfl⟩
   |cons d ds ih=>intro vs ⟨x,r,h1,h2,h3⟩;subst h1;exact⟨x,_,rfl,h2,ih h3⟩
  exact⟨G1,_,t,s1.s,app hx,hR,k.step s1⟩
theorem Ze (hm:F.mg "int"=none)(ha:Ev F e ρ (tb q)){p':Pos}(hg:∀i,Gl (F.cx i) "int":=by intro _;rfl)(hs:∀i,starEach [e] (F.cx i).env=[(false,eval e (F.cx i).env)]:=by intro _;rfl):Ev F (.Call (.Name "int" p') [e] [] pos) ρ (ti (if q then 1 else 0)):=
 J6 (λi=>WT) hm DT (ag ha ak hs) (λG H vs Q s hx k=>by
  obtain⟨x,rfl,dE⟩:=iA hx;exact .inr ⟨q,by rw[aO dE],k.sc s rfl⟩) hg 'Q' 'Q' hs (λ_=>rfl)
theorem aV.Qk {K:Frag}{G H:Hp}:∀{us:List Tr} {vs:List V} {fq:List adV} {m:Nat} {d:Dv},aV K G H us vs fq->us[m]?=some (.fz d)->∃v,vs[m]?=some v/\Hv K G d v
 |[],_,_,_,_,_,h=>by cases h
 |_::_,_,_,0,_,⟨v,r,f1,f2,h1,h2,h3,h4⟩,h=>by cases h;subst h1;exact⟨v,rfl,h3.2⟩
 |_::_,_,_,m+1,_,⟨v,r,f1,f2,h1,h2,h3,h4⟩,h=>by subst h1;exact aV.Qk (m:=m) h4 h
theorem Ln (j:Nat){x:Str}{us:List Tr}{n:Int}{m:Nat}{d:Dv}{nE:Expr}{p1:Pos}(h : ρ[j]?=some (some (.ow us)))(hn:bB F nE ρ (ti n))(hm:dW us.length n=some m)(hu:us[m]?=some (.fz d))(hN:∀i,(F.cx i).N[j]?=some x:=by intro _;rfl)(hv:∀i,iF (F.cx i).env.scope x:=by intro _;first|exact Or.inl rfl|exact Or.inr (Or.inl rfl)|exact Or.inr (Or.inr rfl))(hd:(x==("__debug__":Str))=false:=by decide)(hc:(x==("__classdict__":Str))=false:=by decide)(cJ:uA nE:=by exact λ_ _=>rfl):
  bB F (.Subscript (.Name x p1) nE pos) ρ (.fz d):=by
 obtain⟨qQ,yn,zn⟩:=hn;refine⟨iZ (vH F.K) (dC j) qQ,λi=>F.hK i▸ku mJ (kj (hN i) (hv i) hd hc) (yn i) cJ,λσ G H fp Q s r hg k=>?_⟩;obtain⟨v,f,fr,q1,q2,q3,q4⟩:=r.split h;obtain⟨l,vs,fq,rfl,hl,ol,rfl⟩:=q2;refine⟨_,q1,zn σ G H fp _ s r hg λvn G1 H1 f1 s1 o1 w1=>?_⟩;obtain⟨v,g1,g2⟩:=ol.Qk hu;refine⟨l,vs,n,v,rfl,aO o1.2,aM.of (s1.h _ _ hl),?_,k v G1 H1 [] s1 ⟨rfl,g2.mono s1.g⟩ .nil⟩;unfold aF;rw[<- ol.length,hm];exact g1
theorem JE {k:Nat}{f:adV}{fd:FuncData}{ps:List Str}{R:List Dv->Tr->Prop}{x:Str}{d1 d2:Dv}(Fn:Kn F.P F.w F.K F.mg F.base bx k x f fd ps (spT F.K R))(hk:k<=F.room)(ha:bB F a ρ (.fz d1))(hb:bB F b ρ (.fz d2))(hR:R [d1,d2] t){p':Pos}(hg:∀i,Gl (F.cx i) x:=by intro _;rfl)(eE:(x==("__debug__":Str))=false:=by decide)(he:∀i,starEach [a,b] (F.cx i).env=(false,eval a (F.cx i).env)::starEach [b] (F.cx i).env:=by intro _;rfl)(Hj:∀i,starEach [b] (F.cx i).env=[(false,eval b (F.cx i).env)]:=by intro _;rfl)(cJ:∀i,(backTo pos (starEach [b] (F.cx i).env)).any (·.1)=false:=by intro _;rfl):bB F (.Call (.Name x p') [a,b] [] pos) ρ t:=by
 obtain⟨Hk,ya,za⟩:=ha;obtain⟨Hl,yb,zb⟩:=hb;refine⟨sR (spT F.K R) [] E0 (dH Hk (dH Hl d8)),λi=>?_,λσ G H fp Q s r hg k=>?_⟩
 ·have jG:Kn (F.cx i).prog (F.cx i).w (F.cx i).K (F.cx i).mg (F.cx i).base bx k x f fd ps (spT F.K R):=by
   rw[F.hP i,F.hw i,F.hK i,F.hm i,F.hb i];exact Fn
  exact EW jG ((F.hr i).mono hk) (hg i) (cm (ya i) (cm (yb i) cR (Hj i)) (he i)) eE (he i) (cJ i)
 ·refine za σ G H fp _ s r hg λv1 G1 H1 f1 s1 o1 w1=>?_
  refine zb σ G1 H1 fp _ s1.s (r.mono s1.g s1.h) (r.off s1 hg) λv2 G2 H2 f2 s2 o2 w2=>?_
  obtain⟨rfl,h1⟩:=o1;obtain⟨rfl,h2⟩:=o2;exact⟨G2,[d1,d2],t,s2.s,⟨v1,_,rfl,h1.mono s2.g,v2,_,rfl,h2,rfl⟩,hR,k.step (s1.trans s2)⟩
end
abbrev dF (p:Int×Int):Dv:=.tup [di p.1,di p.2]
abbrev tF (p:Int×Int):Tr:=.fz (dF p)
def fW (W s:Int):Int×Int:=(lT s W,lB s W)
theorem gq (h : 0<W) : 0<(fW W s).2:=by have:=Fb (t:=s) (show W≠0 by lia);show 0<lB s W;lia
theorem Fe (h : 0<W):(fW W s).2<=W:=by have:=ab8 (t:=s) (show W≠0 by lia);show lB s W<=W;lia
theorem Eb (h : 0<W):(fW W s).1.natAbs<=s.natAbs:=aa8 (show W≠0 by omega)
theorem jb (h : 0<W):(fW W s).1*W=s*(fW W s).2:=Dd (show W≠0 by omega)
theorem abe (h : 0<W):Int.gcd (fW W s).1 (fW W s).2=1:=B5 (show W≠0 by omega)
theorem JF (h : 0<W)(hs : 0<=s) : 0<=(fW W s).1:=by
 have c:=jb (s:=s) h;have p:=gq (s:=s) h;obtain z|z:=afz (fW W s).1 0
 ·have:=afI z h;have : 0<=s*(fW W s).2:=ad1 hs 'O';lia
 ·exact z
theorem rS (h : 0<W)(hb:b≠0)(e:t*W=s*b):(lT t b,lB t b)=fW W s:=by
 obtain⟨h1,h2⟩:=acW hb (show W≠0 by lia) e;show _=(_,_)
 simp_all
theorem Dh (h : 0<W):(lT ((fW W s).1*(fW W t).2+(fW W t).1*(fW W s).2) ((fW W s).2*(fW W t).2),lB ((fW W s).1*(fW W t).2+(fW W t).1*(fW W s).2) ((fW W s).2*(fW W t).2))=fW W (s+t):=by
 have p1:=gq (s:=s) h;have p2:=gq (s:=t) h;have c1:=jb (s:=s) h;have c2:=jb (s:=t) h;refine rS h (by have:=Int.mul_pos p1 p2;lia) ?_
 grind
theorem yR (h : 0<W)(e:fW W s=fW W t):s=t:=by
 have c1:=jb (s:=s) h;have c2:=jb (s:=t) h;rw[e]at c1;have p:=gq (s:=t) h;have:s*(fW W t).2=t*(fW W t).2:=by rw[<- c1,<- c2]
 exact Int.eq_of_mul_eq_mul_right 'O' this
theorem rT (h : 0<W):fW W 0=(0,1):=by
 have:=CB (b:=W) (p:=0) (q:=1) 'Z' 'Q' 'Q' (by rw[Int.zero_mul,Int.zero_mul]);show(_,_)=_;rw[<- this.1,<- this.2]
theorem aca (h : 0<W):(fW W s).1*(fW W t).2<(fW W t).1*(fW W s).2↔s<t:=by
 have p1:=gq (s:=s) h;have p2:=gq (s:=t) h;have c1:=jb (s:=s) h;have c2:=jb (s:=t) h;generalize (fW W s).1=a at *;generalize (fW W s).2=b at *;generalize (fW W t).1=c at *;generalize (fW W t).2=d at *;have bd:=Int.mul_pos p1 p2;have e1:a*d*W=s*(b*d):=by grind
 have e2:c*b*W=t*(b*d):=by grind
 constructor
 ·intro z;have:=Zp z h
  simp_all
 ·intro z;have:=Zp z bd;rw[<- e1,<- e2]at this;exact Int.lt_of_mul_lt_mul_right this 'O'
end L2
namespace L2
open PySem PySem.Spec PyProof.Rows
section
variable {F:aS ι}{ρ:En}{pos:Pos}
theorem Rn.to {st:age}(h:Rn F st ρ (.nx ρ1))(e : ρ1=ρ2):Rn F st ρ (.nx ρ2):=e▸h
theorem Wc (j j2:Nat){x y:Str}{pos' p4 p5 p6:Pos}(qR:j≠j2)(h2 : ρ[j2]?=some (some (.ow ws)))(hn:bB F nE ρ (ti n))(hm:dW ws.length n=some m)(hb : -(2^62)<=n/\n<2^62)(hu:ws[m]?=some (.fz d))(hN:∀i,(F.cx i).N.Nodup)(hj:Nat.blt j ρ.length=true:=by rfl)(hi:∀i,(F.cx i).N[j]?=some x:=by intro _;rfl)(wD:∀i,(F.cx i).N[j2]?=some y:=by intro _;rfl)(hx:∀i,Loc (F.cx i).env.scope x:=by intro _;first|exact Or.inl rfl|exact Or.inr rfl)(wG:∀i,iF (F.cx i).env.scope y:=by intro _;first|exact Or.inl rfl|exact Or.inr (Or.inl rfl)|exact Or.inr (Or.inr rfl))(hd2:(y==("__debug__":Str))=false:=by decide)(qS:(y==("__classdict__":Str))=false:=by decide)(D3:∀i,attributeBase (.Name y p4) "pop" (F.cx i).env (eval (.Name y p4) (F.cx i).env)=eval (.Name y p4) (F.cx i).env:=by intro _;rfl)(Fc:∀i,((backTo p6 (starEach [nE] (F.cx i).env)).all (λx=>!x.1)&&(backToKw p6 (keywordEach [] (F.cx i).env)).all (λx=>x.1.isSome)&&decide (([nE]:List Expr).length+([]:List Keyword).length+(if([]:List Keyword).isEmpty then 0 else 1)<30))=true:=by intro _;rfl)(Ea:(p5.endLine==p6.line)=true:=by rfl)(dq:∀i,starEach [nE] (F.cx i).env=[(false,eval nE (F.cx i).env)]:=by intro _;rfl)(hs:∀i,swapsWith (.Call (.Attribute (.Name y p4) "pop" p5) [nE] [] p6) (some (.Name x pos')) pos.line (F.cx i).env=pure false:=by intro _;rfl)(hf:∀i,(F.cx i).fn x=true\/(F.cx i).env.scope.names.lookup x=some .local:=by intro _;first|exact .inl rfl|exact .inr rfl):
  Rn F (.Assign [.Name x pos'] (.Call (.Attribute (.Name y p4) "pop" p5) [nE] [] p6) pos) ρ (.nx ((ρ.set j2 (some (.ow (ws.eraseIdx m)))).set j (some (.fz d)))):=by
 obtain⟨qQ,yn,zn⟩:_:=hn;refine⟨lM (nD F.K "list" DN (dC j2) (dH qQ d8)) (eJ j),λi=>iq (hN i) (hi i) (hx i) (F.hK i▸lF GG PySem.F.slot_list_pop PySem.F.type_list_pop JW (kj (wD i) (wG i) hd2 qS) (cm (yn i) cR (dq i)) (D3 i) (Fc i) Ea (dq i) rfl) (hs i) (hf i),λD σ G0 H0 G H r k=>?_⟩;obtain⟨fp,r⟩:=r;obtain⟨l2,vs2,Rm,e1,e2,_⟩:_:=r.mut h2 (.refl r.st.s);refine⟨_,e1,.inl ⟨rfl,_,aM.of e2⟩,?_⟩;refine zn σ G H fp _ r.st.s r.own r.g λvn G1 H1 f1 s1 o1 w1=>?_
 obtain⟨l,vs,fq,d1,d2,d3,d4,d5,d6,d7⟩:_:=r.mut h2 s1;rw[e1]at d1;cases d1;obtain⟨v,f,fw,g1,g2,g3,g4,g5,g6,g7,g8⟩:_:=d4.erase hu d5;obtain⟨rfl,lY⟩:=g2;obtain⟨Hh,ix2,ix3,ix4⟩:=uz hm;refine⟨l2,vs,n,m,v,rfl,by rw[aO o1.2],d3,'O','O',by rw[<- d4.length];exact Hh,g1,?_⟩;have r2:=d7 (ws.eraseIdx m) (vs.eraseIdx m) fw g3 g4 λa ha=>.inl (g6 a ha)
 obtain⟨fp2,r2⟩:=r2;have oP:j<(ρ.set j2 (some (.ow (ws.eraseIdx m)))).length:=by rw[PM];exact adv hj
 exact k _ G1 _ (r2.set oP (.refl r2.st.s) ⟨rfl,lY⟩ .nil)
end
theorem aH.F8 {K:Frag}:∀{ds es:List Dv} {vs ws:List V},aH K G ds vs->aH K G es ws->aH K G (ds++es) (vs++ws)
 |[],_,_,_,h,q=>by rw[h];exact q
 |_::_,_,_,ws,⟨x,r,h1,h2,h3⟩,q=>by subst h1;exact⟨x,r++ws,rfl,h2,aH.F8 h3 q⟩
theorem RS.dM {K:Frag}{G0 H0 G H:Hp}{ρ:En}{σ:St}{j:Nat}{t:Tr}(r:RS K G0 H0 G H ρ σ)(h : ρ[j]?=some (some t)):∃G1,RS K G0 H0 G1 H (ρ.set j (some (.fz (er t)))) σ:=by
 obtain⟨fp,r⟩:=r;obtain⟨v,f,fr,q1,q2,q3,q4⟩:=r.own.split h;have nd:=q4.nodup_iff.mp r.d;have inf:∀a∈f,a∈fp:=λa ha=>q4.mem_iff.mpr (xy _ ha)
 have inr:∀a∈fr,a∈fp:=λa ha=>q4.mem_iff.mpr (l7 _ ha)
 have w:Nw H0 G f:=⟨λa ha=>r.n a (inf a ha),λa ha=>r.g a (inf a ha),(ze.mp nd).1⟩
 have hv:Hv K (cD G H f) (er t) v:=q2.hv (fm w.g) λa ha=>du ha
 have ac0:bw K (cD G H f) H (ρ.set j none) σ fr:=q3.mono (fm w.g) (aj.refl H);have hj:j < ρ.length:=by
  obtain z|z:=EM j ρ.length
  ·exact z
  ·rw[Mc z]at h;cases h
 obtain⟨hW,p1,p2⟩:=ac0.put (t9 hj) (t:=.fz (er t)) (v:=v) (f:=[]) ⟨rfl,hv⟩;rw[afy]at p1;have es : σ.set j (some v)=σ:=by
  refine OE λi=>?_
  rw[afQ];split
  ·rename_i e
   subst e;split
   ·exact q1.symm
   ·rename_i z;rw[Mc 'Z']at q1;cases q1
  ·rfl
 rw[es]at p1;have Hm:∀a∈hW,a∈fr:=λa ha=>by simpa using p2.mem_iff.mp ha
 refine⟨cD G H f,hW,r.st.dM w,p1,λa ha=>?_,λa ha=>r.n a (inr a (Hm a ha)),p2.nodup_iff.mpr (by simpa using (ze.mp nd).2.1)⟩;have hn:a∉f:=λz=>(ze.mp nd).2.2 a z a (Hm a ha) rfl
 rw[nT hn];exact r.g a (inr a (Hm a ha))
section
theorem Zf (j:Nat)(h : ρ[j]?=some (some t))(hr:bt F dN (ρ.set j (some (.fz (er t)))) o):bt F dN ρ o:=by
 obtain⟨τ,x,y⟩:=hr;exact⟨τ,x,λD σ G0 H0 G H r k=>by
  obtain⟨G1,r1⟩:=r.dM h;exact y D σ G0 H0 G1 H r1 k⟩
end
theorem zv (N2:List Str)(L:J1 N2 cK sc fr)(wu:∀y,(y,NameKind.free)∈cK.names->∃c,tG.lookup y=some c)(eN:(pZ++qK.map λj=>X.N.getD j "")=N2:=by rfl):
  iR (dI X pZ qK cK tG C s H ex pn) sc (gu (cellsFrom (C+1) cK.names tG) sc.names []) fr:=by
 subst eN;exact acQ L wu
section
def acb (K:Frag):List V->Hp->VK->Prop:=λxs H Q=>∃(p:adV) (ns:LI) (m:Int),xs=[.ref p]/\aM K H p (ns.map V.int)/\(m∈ns/\∀a∈ns,m<=a)/\Q (.int m) H
theorem W9 (hc:X.calm=true):eY X (.builtin "min") (acb X.K):=by
 intro pins s σ H xs us Q I r h;obtain⟨p,ns,m,rfl,hq,hm,q⟩:_:=h;cases r with
 |cons r1 rr=>
  cases rr
  cases r1
  obtain⟨its,rv,pl,hz⟩:_:=I.list hq;obtain⟨zs,rfl,rfl⟩:_:=Bc rv;have i6 : 0<zs.toArray.size:=by
   grind
  refine PySem.min_intList (I.ok.hd hc) (by simpa [PySem.intItems]using pl.isList) i6 λv h' tk hv hk=>?_
  obtain⟨t,rfl⟩:=PySem.intItems_at hv;obtain⟨h1,h2⟩:=PySem.argBest_lt (PySem.numAt zs.toArray) (zs.toArray.size-1);generalize PySem.argBest (λi j=>decide (PySem.numAt zs.toArray i<PySem.numAt zs.toArray j)) (zs.toArray.size-1)=b at *;have e:PySem.numAt zs.toArray b=m:=by
   have i1:PySem.numAt zs.toArray b∈zs.map (·.1):=by
    rw[PySem.numAt_eq]
    grind
   obtain⟨j,hj,ej⟩:_:=PySem.mem_getD hm.1;have e2:PySem.numAt zs.toArray j=m:=by rw[PySem.numAt_eq];exact ej
   grind
  rw[e];exact⟨.int m,H,I.kept (t':=tk) hk,⟨t,rfl⟩,q⟩
end
section
theorem X3 (hi:vK F tg iter ρ its)(hg:ie F tg js sp)(inv:Nat->En)(m:Nat)(hm:m<=its.length)(h0:inv 0=ρ)(hlen:∀k,js.all (λj=>Nat.blt j (inv k).length)=true)(step:∀k d,k<m->its[k]?=some d->∃dd gS,sp d=some dd/\bt F body (a7 js (dd.map .fz) (inv k)) (.nx gS)/\Fg gS (inv (k+1)))(fin:(m=its.length/\bt F dN (inv m) o)\/∃d dd t,its[m]?=some d/\sp d=some dd/\bt F body (a7 js (dd.map .fz) (inv m)) (.rt t)/\o=.rt t)(hx:∀i,(F.cx i).xe=cO:=by intro _;rfl)(hs:∀i x,foldedSetIterable iter (F.cx i).env x=pure x:=by intro _ _;rfl):bt F (.For tg iter body [] pos::dN) ρ o:=by
 obtain⟨h1,h2⟩|⟨d,dd,t,h1,h2,h3,rfl⟩:=fin
 ·exact aq (xO hi hg inv m hm h0 hlen step (.inl ⟨h1,rfl⟩) hx hs) h2
 ·exact rQ (xO hi hg inv m hm h0 hlen step (.inr ⟨d,dd,t,h1,h2,h3,rfl⟩) hx hs)
end
section
variable {F:aS ι}
theorem abf (ha:Ev F a ρ (.fz (.fl u)))(hb:Ev F b ρ (.fz (.fl v)))(hs:zM u v=true):Et F (.Compare a [.Eq] [b] pos) ρ (decide (u=v)):=
 jh (λ_=>zp) ha hb (λG H x y Q s hx hy k=>by rw[aO hx,aO hy];exact⟨hs,k⟩) (fN _)
end
theorem fI.to {F:aS ι}(h:fI F e ρ p)(z:p=q):fI F e ρ q:=z▸h
theorem bt.to {F:aS ι}(h:bt F dN ρ o)(z:o=o'):bt F dN ρ o':=z▸h
section
theorem abg {K:Frag}{G:Hp}{xs:List Dv}{d:Dv}{x:V}(e:d=.lst xs\/d=.tup xs)(h:Hv K G d x):∃l,x=.ref l:=by
 obtain rfl|rfl:=e
 ·obtain⟨l,_,h,_⟩:=h;exact⟨l,h⟩
 ·obtain⟨l,_,h,_⟩:=h;exact⟨l,h⟩
theorem Zg {xs:List Dv}{j:Nat}{p':Pos}(ha:Ev F a ρ ta)(ea:er ta=.lst xs\/er ta=.tup xs):Et F (.Compare a [.Is] [.Constant .none j p'] pos) ρ false:=
 jh (λ_=>MJ) ha MT (λG H x y Q s hx hy k=>⟨aO hy,by
  obtain⟨l,rfl⟩:=abg ea hx;rw[show decide (V.ref l=V.aW)=false from LF (λz=>nomatch z)];exact k⟩) (fN _)
end
theorem Lp {K:Frag}(h:Hv K G d v):∀n,aV K G H (List.replicate n (.fz d)) (List.replicate n v) []
 |0=>⟨rfl,rfl⟩
 |n+1=>⟨v,_,[],[],rfl,rfl,⟨rfl,h⟩,Lp h n⟩
theorem X8 {α:Type}(v : α):∀n,(List.replicate n [v]).flatten=List.replicate n v
 |0=>rfl
 |n+1=>'J'
theorem abh {F:aS ι}(ha:Ev F a ρ (.ow [.fz d]))(hb:Ev F b ρ (ti n))(h0 : 0<=n)(h1:n<=1000):Ev F (.BinOp a .Mult b pos) ρ (.ow (List.replicate n.toNat (.fz d))):=by
 obtain⟨Hk,pa,qa⟩:_:=ha;obtain⟨Hl,pb,qb⟩:_:=hb;refine⟨iZ Qb Hk Hl,λi=>sQ aaX (pa i) (pb i),λσ G H Q s r k=>?_⟩;refine qa σ G H _ s r λx G1 H1 fq s1 o1 w1=>qb σ G1 H1 _ s1.s (r.mono s1.g) λy G2 H2 Rm s2 o2 w2=>?_
 obtain⟨l,vs,Q8,rfl,hl,ol,rfl⟩:_:=o1;obtain⟨v,r',f1,f2,rfl,rfl,⟨rfl,hv⟩,rfl,rfl⟩:_:=ol;have big:=cw;refine⟨l,n,[v],rfl,aO o2.2,s2.h _ _ hl,'O','O',by grind,λp hp=>?_⟩;rw[X8];exact k _ G2 _ [p] ((s1.trans s2).trans (.jR s2.s hp)) ⟨p,_,[],rfl,bQ,Lp (hv.mono s2.g) _,rfl⟩ ⟨λa ha=>by rw[BB.mp ha];exact(s1.h.trans s2.h).free hp,λa ha=>by rw[BB.mp ha];exact s2.s.free hp,AE.mpr ⟨(λz=>nomatch z),.nil⟩⟩
theorem Bs (xs:Array Nat)(j k:Nat)(h0:∀i,i<k->i<xs.size->xs.getD i j<j)(h9:∀i,k<=i->i<xs.size->¬xs.getD i j<j):∀fuel lo hi,hi<=xs.size->lo<=k->k<=hi->hi-lo<=fuel->SetTable.below.go xs j fuel lo hi=k
 |0=>λlo hi _ h2 h3 h4=>by
  have:lo=k:='O'
  subst this
  rfl
 |fuel+1=>λlo hi h1 h2 h3 h4=>by
  unfold SetTable.below.go;by_cases h:lo<hi
  ·rw[uu h];dsimp only;by_cases hm:(lo+hi)/2<k
   ·rw[uu (h0 _ hm 'O')];exact Bs xs j k h0 h9 fuel _ hi h1 'Z' h3 'Z'
   ·rw[rf (h9 _ 'Z' 'Z')];exact Bs xs j k h0 h9 fuel lo _ 'Z' h2 'Z' 'Z'
  ·rw[rf h];lia
theorem Ca (hk:k<=xs.size)(h0:∀i,i<k->i<xs.size->xs.getD i j<j)(h9:∀i,k<=i->i<xs.size->¬xs.getD i j<j):SetTable.below xs j=k:=
 Bs xs j k h0 h9 _ 0 _ (br _) (AM _) hk 'O'
theorem getD_list (ns:List Nat)(i j:Nat):ns.toArray.getD i j=ns.getD i j:=by
 simp_all
section
theorem Xa (a:vn)(h:Q₁ (.ref s.heap.objs.size) {s with heap:=s.heap.push {cls:=.type "set",dict:=none,data:=.set #[] 0 (.fresh 0 0 (!w.params.followText "set-order"))}}):
  codeAny (model prog w) A (.call (.builtin "set.__new__") ⟨[.type "set",a],[]⟩) (wants Q₁ E) s:=by
 refine codeAny_of_tree ?_;refine ar (aeD (F.newCall_set_1 a) (wpAny_pure ⟨aeM F.plain_set_new _,aeN F.entry_set_new ?_⟩));unfold Builtin.«set.__new__» Builtin.Frozenset.newClass;have ac1:=sub_set_self;obtain⟨hp,g,d,tk,os⟩:=s
 wp_walk
 refine aeA (wpAny_pure ?_);refine ar (wpAny_alloc (wpAny_pure ?_));exact wpAny_pure h
end
section
def td (b:Bool):Obj:={cls:=.type "set",dict:=none,data:=.set #[] 0 (.fresh 0 0 b)}
end
theorem rE:Slot "set_iterator" "__next__" "set_iterator.__next__":=
 .of (owner :="set_iterator") (n :="__next__") 'X' 'W' 'W' 'W'
  (by first|exact .inl 'W'|exact .inr 'W') (by kernel_rfl)
theorem IX:entryFor table "set_iterator.__next__"=some Builtin.«set_iterator.__next__»:=entryFor_of_tree (by kernel_rfl)
theorem JG:Manifest.owners.lookup (String.ofList ['r', 'o', 't', 'a', 'r', 'e', 't', 'i', '_', 't', 'e', 's'].reverse)=some Manifest.sig_set_iterator:=by kernel_rfl
theorem Jb (a:vn):argsOk "set_iterator.__next__" ⟨[a],[]⟩:=by
 unfold argsOk;rw[afY (n:=['_', '_', 't', 'x', 'e', 'n', '_', '_']) (by kernel_rfl) JG];kernel_rfl
theorem Jc:Slot "set_iterator" "__iter__" "set_iterator.__iter__":=
 .of (owner :="set_iterator") (n :="__iter__") 'X' 'W' 'W' 'W'
  (by first|exact .inl 'W'|exact .inr 'W') (by kernel_rfl)
theorem Ut:entryFor table "set_iterator.__iter__"=some Builtin.«dict_keyiterator.__iter__»:=
 entryFor_alias (id' :="dict_keyiterator.__iter__") (by kernel_rfl) rfl 'W' (by kernel_rfl)
theorem UT (a:vn):argsOk "set_iterator.__iter__" ⟨[a],[]⟩:=by
 unfold argsOk;rw[afY (n:=['_', '_', 'r', 'e', 't', 'i', '_', '_']) (by kernel_rfl) JG];kernel_rfl
theorem Uu:entryFor table "set.__iter__"=some Builtin.«frozenset.__iter__»:=
 entryFor_alias (id' :="frozenset.__iter__") (by kernel_rfl) rfl 'W' (by kernel_rfl)
theorem Lq (next:Nat->Nat):∀fuel k (left:List α) out,fuel=left.length->(pickOrder.go next fuel k left out).toList.Perm (out.toList++left)
 |0=>λk left out h=>by
  have:=List.eq_nil_of_length_eq_zero h.symm;subst this;unfold pickOrder.go;rw[AS]
 |fuel+1=>λk left out h=>by
  have bD:next k%left.length<left.length:=aeW _ 'O'
  unfold pickOrder.go;rw[ab bD];have ih:=Lq next fuel (k+1) (left.eraseIdx (next k%left.length)) (out.push left[next k%left.length]) (by rw[List.length_eraseIdx_of_lt bD];lia)
  refine ih.trans ?_;rw[Pe,CS];refine NH _ ?_;have e:left=left.take (next k%left.length)++left[next k%left.length]::left.drop (next k%left.length+1):=by rw[List.getElem_cons_drop,ET]
  conv=>rhs;rw[e]
  rw[List.eraseIdx_eq_take_drop_succ];rw[List.singleton_append];exact(List.perm_middle).symm
theorem Xb (next:Nat->Nat)(xs:Array α):(pickOrder next xs).toList.Perm xs.toList:=by
 have:=Lq next xs.size 0 xs.toList #[] 'Y'
 simpa [pickOrder]using this
section
theorem Yb (hT:s.TypeIs (.ref r) "set")(h:Q false s):wpAny (model prog w) A (Builtin.List.listLengthHint (.ref r)) Q E s:=by
 refine ar (aeO hT PySem.F.slot_set_len.lookup ?_);generalize Hn:("set.__len__")=id0
 wp_delta
 subst Hn;refine ar (afa (b:=true) hT (by kernel_rfl) ?_);refine RI (λck=>absurd ck 'Q') (λ_=>?_);refine RI (λ_=>?_) (λck=>absurd 'W' ck);refine ar (wpAny_typeOf hT ?_);exact wpAny_pure h
end
end L2
namespace So
open PySem PyProof.Rows
abbrev GC:=Option (Option Nat)×Nat×Nat
abbrev SM:=StateT SortSt Sem
def F9:Bool->Keyed->Array Keyed->Nat->Nat->Nat->SM (Option Nat):=sortPriv% PySem.Builtin.gallop
def mLo:Array Keyed->Array Keyed->SM (Array Keyed):=sortPriv% PySem.Builtin.mergeLo
def mHi:Array Keyed->Array Keyed->SM (Array Keyed):=sortPriv% PySem.Builtin.mergeHi
def Ge (left:Bool)(key:Keyed)(arr:Array Keyed)(base i:Nat):SM (Option Bool):=do
 let x<-elem' arr (base+i)
 if left=true then lt' x key else do
  let r<-lt' key x
  pure (r.map λb=>!b)
section
theorem Lr {st:SortSt}(p:Nat->Bool)(wH:∀(i:Nat) (Q:Option Bool->SortSt->Prop),i<n->Q (some (p i)) st->wpS (model prog w) A E s (Ge left key arr base i) Q st)(mono:∀i j,i<=j->j<n->p j=true->p i=true)(hh:hint<n)(h:∀k,k<=n->(∀i,i<k->p i=true)->(∀i,k<=i->i<n->p i=false)->Q (some k) st):
  wpS (model prog w) A E s (F9 left key arr base n hint) Q st:=by
 have Ff:∀i j,i<=j->j<n->p i=false->p j=false:=λi j h1 h2 h3=>by
  cases e:p j with
  |false=>rfl
  |true=>rw[mono i j h1 h2 e]at h3;cases h3
 refine ue (wH hint _ hh ?_);have bin:∀lo hi,lo<=hi->hi<=n->(∀i,i<lo->p i=true)->(∀i,hi<=i->i<n->p i=false) ->
   ∀f,(∀(x lo hi) (Q),hi<=n ->
    (hi<=lo->Q (.done (none,lo,hi)) st)->(lo<hi->p (lo+(hi-lo)/2)=true->Q (.yield (none,lo+(hi-lo)/2+1,hi)) st)->(lo<hi->p (lo+(hi-lo)/2)=false->Q (.yield (none,lo,lo+(hi-lo)/2)) st) ->
    wpS (model prog w) A E s (f x (none,lo,hi)) Q st) ->
   wpS (model prog w) A E s (forIn [0:n] ((none,lo,hi):GC) f) (λc ah=>ah=st/\∃lo,c=(none,lo,lo)/\lo<=n/\(∀i,i<lo->p i=true)/\(∀i,lo<=i->i<n->p i=false)) st:=by
  intro lo hi h1 h2 h3 h4 f hf;refine NJ (I:=λx c ah=>ah=st/\∃lo hi,c=(none,lo,hi)/\lo<=hi/\hi<=n/\hi-lo<=n-x/\(∀i,i<lo->p i=true)/\(∀i,hi<=i->i<n->p i=false)) ?_ ?_ ⟨rfl,lo,hi,rfl,h1,h2,'Z',h3,h4⟩
  ·rintro x c ah _ hx ⟨rfl,lo,hi,rfl,a1,a2,a3,a4,a5⟩;refine hf x lo hi _ a2 (λz=>?_) (λz e=>?_) (λz e=>?_)
   ·have:lo=hi:='Z'
    subst this;exact⟨rfl,lo,rfl,a2,a4,a5⟩
   ·exact⟨rfl,_,_,rfl,'Z',a2,'Z',λi iL=>mono i (lo+(hi-lo)/2) 'Z' 'Z' e,a5⟩
   ·exact⟨rfl,_,_,rfl,'Z','Z','Z',a4,λi b1 b2=>Ff (lo+(hi-lo)/2) i b1 b2 e⟩
  ·rintro c ah ⟨rfl,lo,hi,rfl,a1,a2,a3,a4,a5⟩;have:lo=hi:='Z'
   subst this;exact⟨rfl,lo,rfl,a2,a4,a5⟩
 cases hp:p hint with
 |true=>
  refine ue (adZ (NJ (I:=λx c ah=>ah=st/\∃l o,c=(none,l,o)/\o=2*l+1/\x<=l/\hint+l<n/\p (hint+l)=true)
   (Q:=λc ah=>ah=st/\∃l o,c=(none,l,o)/\l<o/\hint+l<n/\p (hint+l)=true/\(n-hint<=o\/p (hint+o)=false)) ?_ ?_ ⟨rfl,0,1,rfl,rfl,br _,hh,hp⟩) ?_)
  ·rintro x c ah _ hx ⟨rfl,l,o,rfl,a1,a2,a3,a4⟩;dsimp only;by_cases iM:o>=n-hint
   ·rw[uu iM];exact zw ⟨rfl,l,o,rfl,'Z',a3,a4,.inl iM⟩
   ·rw[rf iM];refine ue (wH (hint+o) _ 'Z' ?_);cases e:p (hint+o)with
    |true=>
     exact zw ⟨rfl,o,2*o+1,rfl,rfl,'Z','Z',e⟩
    |false=>
     exact zw ⟨rfl,l,o,rfl,'Z',a3,a4,.inr e⟩
  ·rintro c ah ⟨rfl,l,o,rfl,a1,a2,a3,a4⟩;exact⟨rfl,l,o,rfl,'Z',a3,a4,.inl 'Z'⟩
  ·rintro c ah ⟨rfl,l,o,rfl,a1,a2,a3,a4⟩;dsimp only;refine ue (adZ (bin (hint+l+1) (hint+min o (n-hint)) 'Z' 'Z' (λi hi=>mono i (hint+l) 'O' 'Z' a3) (λi b1 b2=>?_) _ (λx lo hi Q hn k1 k2 k3=>?_)) ?_)
   ·obtain z|z:=a4
    ·omega
    ·by_cases ho:hint+o<=i
     ·exact Ff (hint+o) i ho b2 z
     ·omega
   ·dsimp only;by_cases iM:lo>=hi
    ·rw[uu iM];exact zw (k1 iM)
    ·rw[rf iM];refine ue (wH _ _ 'Z' ?_);dsimp only;cases e:p (lo+(hi-lo)/2)with
     |true=>simp only[if_true];exact zw (k2 'Z' e)
     |false=>simp only[afA];exact zw (k3 'Z' e)
   ·rintro c ah ⟨rfl,lo,rfl,b1,b2,b3⟩;exact zw (h lo b1 b2 b3)
 |false=>
  refine ue (adZ (NJ (I:=λx c ah=>ah=st/\∃l o,c=(none,l,o)/\o=2*l+1/\x<=l/\l<=hint/\p (hint-l)=false)
   (Q:=λc ah=>ah=st/\∃l o,c=(none,l,o)/\l<o/\l<=hint/\p (hint-l)=false/\(hint+1<=o\/(o<=hint/\p (hint-o)=true))) ?_ ?_ ⟨rfl,0,1,rfl,rfl,br _,AM _,hp⟩) ?_)
  ·rintro x c ah _ hx ⟨rfl,l,o,rfl,a1,a2,a3,a4⟩;dsimp only;by_cases iM:o>=hint+1
   ·rw[uu iM];exact zw ⟨rfl,l,o,rfl,'Z',a3,a4,.inl iM⟩
   ·rw[rf iM];refine ue (wH (hint-o) _ 'Z' ?_);cases e:p (hint-o)with
    |true=>
     exact zw ⟨rfl,l,o,rfl,'Z',a3,a4,.inr ⟨'Z',e⟩⟩
    |false=>
     exact zw ⟨rfl,o,2*o+1,rfl,rfl,'Z','Z',e⟩
  ·rintro c ah ⟨rfl,l,o,rfl,a1,a2,a3,a4⟩;exact⟨rfl,l,o,rfl,'Z',a3,a4,.inl 'Z'⟩
  ·rintro c ah ⟨rfl,l,o,rfl,a1,a2,a3,a4⟩;refine ue (adZ (bin (hint+1-min o (hint+1)) (hint-l) 'Z' 'Z' (λi hi=>?_) (λi b1 b2=>Ff (hint-l) i b1 b2 a3) _ (λx lo hi Q hn k1 k2 k3=>?_)) ?_)
   ·obtain z|z:=a4
    ·omega
    ·exact mono i (hint-o) 'Z' 'Z' z.2
   ·dsimp only;by_cases iM:lo>=hi
    ·rw[uu iM];exact zw (k1 iM)
    ·rw[rf iM];refine ue (wH _ _ 'Z' ?_);cases e:p (lo+(hi-lo)/2)with
     |true=>simp[if_true];exact zw (k2 'Z' e)
     |false=>simp[if_false];exact zw (k3 'Z' e)
   ·rintro c ah ⟨rfl,lo,rfl,b1,b2,b3⟩;exact zw (h lo b1 b2 b3)
end
section
def kf (κ:KeyKind)(x:Keyed) : κ.α:=(κ.keyOf x.1).getD κ.dflt
def fJ (κ:KeyKind)(l:List Keyed):Prop:=l.Pairwise λx y=>κ.kle (kf κ x) (kf κ y)
def Kd (κ:KeyKind)(l:List Keyed):Prop:=∀x∈l,(κ.keyOf x.1).isSome=true
structure MI (κ:KeyKind) (a b out:List Keyed) (ia ib:Nat):Prop where
 p:(out++(a.drop ia++b.drop ib)).Perm (a++b)
 x:fJ κ (out++a.drop ia)
 y:fJ κ (out++b.drop ib)
def Gd (κ:KeyKind)(a b m:List Keyed):Prop:=m.Perm (a++b)/\fJ κ m
theorem dG:fJ κ (l++r)↔fJ κ l/\fJ κ r/\∀x∈l,∀y∈r,κ.kle (kf κ x) (kf κ y):=afg
theorem MI.zx (h:MI κ a b out ia ib)(hb:b.length<=ib):Gd κ a b (out++a.drop ia++b.drop ib):=by
 have e:=aei hb;have p:=h.p;rw[e,AS]at p ⊢;exact⟨p,h.x⟩
theorem MI.acd (h:MI κ a b out ia ib)(ha:a.length<=ia):Gd κ a b (out++a.drop ia++b.drop ib):=by
 have e:=aei ha;have p:=h.p;rw[e,List.nil_append]at p;rw[e,AS];exact⟨p,h.y⟩
theorem MI.ace (h:MI κ a b out ia ib)(hl:∀x∈b.drop ib,∀y∈a.drop ia,κ.kle (kf κ x) (kf κ y)):Gd κ a b (out++b.drop ib++a.drop ia):=by
 refine⟨?_,?_⟩
 ·refine List.Perm.trans ?_ h.p
  grind
 ·have hx:=dG.mp h.x;refine dG.mpr ⟨h.y,hx.2.1,λx kK y hy=>?_⟩
  grind
theorem MI.vk (h:MI κ a b out ia ib)(k:Nat)(hl:∀x∈(a.drop ia).take k,∀y∈b.drop ib,κ.kle (kf κ x) (kf κ y)):MI κ a b (out++(a.drop ia).take k) (ia+k) ib:=by
 have e:(a.drop ia).take k++a.drop (ia+k)=a.drop ia:=by rw[<- List.drop_drop];exact ET k _
 have hy:=dG.mp h.y;have hx:=dG.mp h.x;refine⟨?_,?_,?_⟩
 ·have:=h.p
  grind
 ·rw[CS,e];exact h.x
 ·rw[dG,dG];have hs:fJ κ ((a.drop ia).take k):=List.Pairwise.sublist (aeq k _) hx.2.1
  grind
theorem MI.vm (h:MI κ a b out ia ib)(k:Nat)(hl:∀x∈(b.drop ib).take k,∀y∈a.drop ia,κ.kle (kf κ x) (kf κ y)):MI κ a b (out++(b.drop ib).take k) ia (ib+k):=by
 have e:(b.drop ib).take k++b.drop (ib+k)=b.drop ib:=by rw[<- List.drop_drop];exact ET k _
 have hy:=dG.mp h.y;have hx:=dG.mp h.x;refine⟨?_,?_,?_⟩
 ·refine List.Perm.trans ?_ h.p;generalize (b.drop ib).take k=B1 at e;rw[<- e];rw[CS];refine NH _ ?_;rw[<- CS,<- CS];exact SI _ adm
 ·rw[dG,dG];have hs:=List.Pairwise.sublist (aeq k _) hy.2.1;refine⟨⟨hx.1,hs,λx kK y fY=>hy.2.2 x kK y (EN fY)⟩,hx.2.1,λx kK y fY=>?_⟩;obtain z|z:=qr.mp kK
  ·exact hx.2.2 x z y fY
  ·exact hl x z y fY
 ·rw[CS,e];exact h.y
theorem rV {l:List Keyed}(h:l[i]?=some x):l.drop i=x::l.drop (i+1):=by
 obtain⟨h1,rfl⟩:=gz.mp h
 simp_all
theorem o9 {l:List Keyed}(h:fJ κ (l.drop i))(e:l[i]?=some x):∀y∈l.drop i,κ.kle (kf κ x) (kf κ y):=λy hy=>by
 rw[rV e]at h hy;obtain rfl|z:=ff.mp hy
 ·exact NL _
 ·exact(List.pairwise_cons.mp h).1 y z
theorem MI.sU {y:Keyed}(h:MI κ a b out ia ib)(e:a[ia]?=some y)(hl:∀z∈b.drop ib,κ.kle (kf κ y) (kf κ z)):MI κ a b (out++[y]) (ia+1) ib:=by
 have:=h.vk 1 (by rw[rV e];intro x hx z hz;rw[List.take_succ_cons,ae4,BB]at hx;rw[hx];exact hl z hz);rw[rV e]at this;exact this
theorem MI.sV {y:Keyed}(h:MI κ a b out ia ib)(e:b[ib]?=some y)(hl:∀z∈a.drop ia,κ.kle (kf κ y) (kf κ z)):MI κ a b (out++[y]) ia (ib+1):=by
 have:=h.vm 1 (by rw[rV e];intro x hx z hz;rw[List.take_succ_cons,ae4,BB]at hx;rw[hx];exact hl z hz);rw[rV e]at this;exact this
end
abbrev eX (st:SortSt)(g:Nat):SortSt:=SortSt.mk' (kindOf st) (arrOf st) (pendingOf st) g (failedOf st)
theorem rW {α:Type}(a:Array α)(i:Nat):(a.extract i a.size).toList=a.toList.drop i:=by
 rw[Array.toList_extract,afJ,List.take_of_length_le 'J']
theorem Lv {α:Type}(a:Array α)(i k:Nat):(a.extract i (i+k)).toList=(a.toList.drop i).take k:='J'
structure jH (prog:agc) (w:agd) (A:Around) (E:vn->adX->Prop) (s:adX) (kd:SortKind) (κ:KeyKind):Prop where
 lt:∀(st:SortSt) (x y:Keyed) (Q:Option Bool->SortSt->Prop),kindOf st=kd->(κ.keyOf x.1).isSome=true->(κ.keyOf y.1).isSome=true->Q (some (κ.blt (kf κ x) (kf κ y))) st->wpS (model prog w) A E s (lt' x y) Q st
section
theorem dP {st:SortSt}(e:arr[i]?=some x)(h:Q x st):wpS (model prog w) A E s (elem' arr i) Q st:=by
 rw[elem'_eq,e];exact zw h
theorem byL (C:jH prog w A E s kd κ){st:SortSt}(hk:kindOf st=kd)(e:arr[base+i]?=some x)(k1:(κ.keyOf key.1).isSome=true)(k2:(κ.keyOf x.1).isSome=true)(h:Q (some (κ.blt (kf κ x) (kf κ key))) st):
  wpS (model prog w) A E s (Ge true key arr base i) Q st:=by
 refine ue (dP e ?_);exact C.lt st x key _ hk k2 k1 h
theorem byR (C:jH prog w A E s kd κ){st:SortSt}(hk:kindOf st=kd)(e:arr[base+i]?=some x)(k1:(κ.keyOf key.1).isSome=true)(k2:(κ.keyOf x.1).isSome=true)(h:Q (some (!κ.blt (kf κ key) (kf κ x))) st):
  wpS (model prog w) A E s (Ge false key arr base i) Q st:=by
 refine ue (dP e ?_);exact ue (C.lt st key x _ hk k1 k2 (zw h))
def kA (κ:KeyKind)(arr:Array Keyed)(i:Nat) : κ.α:=match arr[i]? with|some x=>kf κ x|none=>κ.dflt
theorem cg (e:arr[i]?=some x):kA κ arr i=kf κ x:=by unfold kA;rw[e]
theorem fB {α:Type}{arr:Array α}(h:i<arr.size):∃x,arr[i]?=some x/\x∈arr.toList:=⟨arr[i],getElem?_pos arr i h,'Y'⟩
theorem oh (h:fJ κ arr.toList)(bV:i<=j)(hj:j<arr.size) : κ.kle (kA κ arr i) (kA κ arr j):=by
 have li:i<arr.toList.length:=by grind
 have lj:j<arr.toList.length:='Z'
 have ei:arr[i]?=some arr.toList[i]:='J'
 have ej:arr[j]?=some arr.toList[j]:='Y'
 rw[cg ei,cg ej];obtain z|z:=EM i j
 ·exact OP.mp h i j li lj z
 ·have:i=j:='O'
  subst this;exact NL _
theorem mem_mid {arr:Array Keyed}(h:x∈(arr.toList.drop i).take k):∃j,j<k/\arr[i+j]?=some x:=by
 obtain⟨n,hn,e⟩:_:=DO h;rw[Lm]at hn;refine⟨n,'O',?_⟩;rw[<- DD,<- aek,<- e];rw[aeV,ab]
theorem Cb (C:jH prog w A E s kd κ){st:SortSt}(hk:kindOf st=kd)(k1:(κ.keyOf key.1).isSome=true)(ka:Kd κ arr.toList)(hn:base+n<=arr.size)(hh:hint<n)(wI:∀i j,i<=j->j<n->κ.kle (kA κ arr (base+i)) (kA κ arr (base+j)))(h:∀k,k<=n->(∀i,i<k->κ.kle (kA κ arr (base+i)) (kf κ key))->(∀i,k<=i->i<n->κ.klt (kf κ key) (kA κ arr (base+i)))->Q (some k) st):
  wpS (model prog w) A E s (F9 false key arr base n hint) Q st:=by
 refine Lr (λi=>!κ.blt (kf κ key) (kA κ arr (base+i))) (λi Q hi hq=>?_) (λi j bV hj e=>?_) hh (λk tK h1 h2=>h k tK (λi hi=>?_) (λi b1 b2=>?_))
 ·obtain⟨x,ex,mx⟩:_:=fB (arr:=arr) (i:=base+i) 'O';rw[cg ex]at hq;exact byR C hk ex k1 (ka x mx) hq
 ·have e' : κ.blt (kf κ key) (kA κ arr (base+j))=false:='J'
  have:=Co (wI i j bV hj) e';unfold KeyOrd.kle at this
  simp_all
 ·show κ.blt _ _=false
  simp_all
 ·show κ.blt _ _=true
  simp_all
theorem CG (C:jH prog w A E s kd κ){st:SortSt}(hk:kindOf st=kd)(k1:(κ.keyOf key.1).isSome=true)(ka:Kd κ arr.toList)(hn:base+n<=arr.size)(hh:hint<n)(wI:∀i j,i<=j->j<n->κ.kle (kA κ arr (base+i)) (kA κ arr (base+j)))(h:∀k,k<=n->(∀i,i<k->κ.klt (kA κ arr (base+i)) (kf κ key))->(∀i,k<=i->i<n->κ.kle (kf κ key) (kA κ arr (base+i)))->Q (some k) st):
  wpS (model prog w) A E s (F9 true key arr base n hint) Q st:=by
 refine Lr (λi=>κ.blt (kA κ arr (base+i)) (kf κ key)) (λi Q hi hq=>?_) (λi j bV hj e=>?_) hh (λk tK h1 h2=>h k tK (λi hi=>h1 i hi) (λi b1 b2=>h2 i b1 b2))
 ·obtain⟨x,ex,mx⟩:=fB (arr:=arr) (i:=base+i) 'Z';rw[cg ex]at hq;exact byL C hk ex k1 (ka x mx) hq
 ·exact KeyOrd.klt_of_kle_of_klt (wI i j bV hj) e
end
section
theorem Zh (C:jH prog w A E s kd κ){st:SortSt}(hk:kindOf st=kd)(ka:Kd κ a.toList)(kb:Kd κ b.toList)(sa:fJ κ a.toList)(sb:fJ κ b.toList)(na : 0<a.size)(nb : 0<b.size)(h0:∀x y,b[0]?=some x->a[0]?=some y->κ.kle (kf κ x) (kf κ y))(hl:∀x∈b.toList,∀y,a[a.size-1]?=some y->κ.kle (kf κ x) (kf κ y))(h:∀(m:Array Keyed) g,Gd κ a.toList b.toList m.toList->Q m (eX st g)):wpS (model prog w) A E s (mLo a b) Q st:=by
 have la:a.toList.length=a.size:=NO;have lb:b.toList.length=b.size:=NO;have ga:∀{i x},a[i]?=some x->a.toList[i]?=some x:=λ{i x} e=>by rw[DD];exact e
 have gb:∀{i x},b[i]?=some x->b.toList[i]?=some x:=λ{i x} e=>by rw[DD];exact e
 have dl:∀(out:Array Keyed) ia ib,(out++a.extract ia a.size++b.extract ib b.size).toList=out.toList++a.toList.drop ia++b.toList.drop ib:=λout ia ib=>by
  rw[IS,IS,rW,rW]
 have ll:∀(out:Array Keyed) ia ib,(out++b.extract ib b.size++a.extract ia a.size).toList=out.toList++b.toList.drop ib++a.toList.drop ia:=λout ia ib=>by
  rw[IS,IS,rW,rW]
 have last:∀{out:Array Keyed} {ia ib},MI κ a.toList b.toList out.toList ia ib->ia+1=a.size->Gd κ a.toList b.toList (out++b.extract ib b.size++a.extract ia a.size).toList:=λ{out ia ib} mi e=>by
  rw[ll];refine mi.ace λx hx y hy=>?_
  obtain⟨z,ez,_⟩:=fB (arr:=a) (i:=ia) 'Z';rw[rV (ga ez),aei 'Z',BB]at hy;rw[hy];exact hl x (ad2 hx) z (by rw[show a.size-1=ia by omega];exact ez)
 refine ue (afZ (ad3 ⟨rfl,?_⟩))
 ac_rfl
 obtain⟨x0,e0,m0⟩:=fB nb;refine ue (dP e0 ?_)
 ac_rfl
 obtain⟨y0,f0,_⟩:=fB na;have wK:MI κ a.toList b.toList [x0] 0 1:=by
  have:MI κ a.toList b.toList [] 0 0:=⟨List.Perm.refl _,sa,sb⟩
  refine this.sV (gb e0) λz hz=>Co (h0 x0 y0 e0 f0) (o9 (i:=0) sa (ga f0) z hz)
 by_cases gR:(1==b.size)=true
 ·rw[uu gR];have:=(Cc.mp gR).symm;exact zw (h _ (gallopOf st) (by rw[dl];exact wK.zx 'Z'))
 rw[rf gR];have ac2 : 1≠b.size:=λz=>gR (Cc.mpr z)
 by_cases nM:(0+1==a.size)=true
 ·rw[uu nM];have:=(Cc.mp nM)
  exact zw (h _ (gallopOf st) (last wK this))
 rw[rf nM];have ac3 : 0+1≠a.size:=λz=>nM (Cc.mpr z)
 refine ue (afK ?_)
 ac_rfl
 generalize gallopOf st=mg0;refine ue (adZ (NJ (I:=λt c ah=>(∃g,ah=eX st g)/\∃out ia ib mg,c=(none,out,ia,ib,mg)/\MI κ a.toList b.toList out.toList ia ib/\ia+1<a.size/\ib<b.size/\t<=ia+ib)
  (Q:=λc ah=>(∃g,ah=eX st g)/\∃m,c.1=some m/\Gd κ a.toList b.toList m.toList) ?_ ?_ ⟨⟨gallopOf st,rfl⟩,_,0,1,_,rfl,wK,'Z','Z','Z'⟩) ?_)
 rotate_left
 ·intro c ah z9;obtain⟨_,out,ia,ib,mg,rfl,mi,h1,h2,h3⟩:_:=z9;omega
 ·rintro c ah ⟨⟨g,rfl⟩,m,e,gd⟩;dsimp only;rw[e];exact zw (h m g gd)
 intro t c ah _ ht z9;obtain⟨⟨g,rfl⟩,out,ia,ib,mg,rfl,mi,h1,h2,h3⟩:_:=z9
 ac_rfl
 nofun
 refine ue (adZ (NJ (I:=λq c ah=>ah=eX st g/\∃out ia ib ac bc,c=(none,out,ia,ib,ac,bc)/\MI κ a.toList b.toList out.toList ia ib/\ia+1<a.size/\ib<b.size/\t+q<=ia+ib)
  (Q:=λc ah=>ah=eX st g/\((∃m,c.1=some m/\Gd κ a.toList b.toList m.toList)\/∃out ia ib ac bc,c=(none,out,ia,ib,ac,bc)/\MI κ a.toList b.toList out.toList ia ib/\ia+1<a.size/\ib<b.size/\t+1<=ia+ib)) ?_ ?_ ⟨rfl,out,ia,ib,0,0,rfl,mi,h1,h2,'Z'⟩) ?_)
 rotate_left
 ·intro c ah z9;obtain⟨_,out,ia,ib,ac,bc,rfl,mi,h1,h2,h3⟩:_:=z9;omega
 rotate_left
 ·clear mi h1 h2 h3;intro q c ah _ hq z9;obtain⟨rfl,out,ia,ib,ac,bc,rfl,mi,h1,h2,h3⟩:_:=z9
  ac_rfl
  nofun
  obtain⟨xb,eb,mb⟩:=fB h2;obtain⟨xa,ea,ma⟩:=fB (arr:=a) (i:=ia) 'Z';have sA:=(dG.mp mi.x).2.1;have sB:=(dG.mp mi.y).2.1;refine ue (dP eb (ue (dP ea (ue (C.lt _ xb xa _ hk (kb _ mb) (ka _ ma) ?_)))))
  nofun
  cases bD : κ.blt (kf κ xb) (kf κ xa)with
  |true=>
   rw[uu rfl];refine ue (dP eb ?_)
   ac_rfl
   have b9:MI κ a.toList b.toList (out.push xb).toList ia (ib+1):=by
    rw[Pe];exact mi.sV (gb eb) λz hz=>Co (LB bD) (o9 sA (ga ea) z hz)
   by_cases hz:(ib+1==b.size)=true
   ·rw[uu hz];have:=Cc.mp hz;exact zw ⟨rfl,.inl ⟨_,rfl,by rw[dl];exact b9.zx 'Z'⟩⟩
   ·rw[rf hz];have gD:ib+1≠b.size:=λz=>hz (Cc.mpr z)
    split
    ·exact zw ⟨rfl,.inr ⟨_,_,_,_,_,rfl,b9,h1,'Z','Z'⟩⟩
    ·exact zw ⟨rfl,_,_,_,_,_,rfl,b9,h1,'Z','Z'⟩
  |false=>
   rw[rf 'Q'];refine ue (dP ea ?_)
   ac_rfl
   have b9:MI κ a.toList b.toList (out.push xa).toList (ia+1) ib:=by
    rw[Pe];exact mi.sU (ga ea) λz hz=>Co bD (o9 sB (gb eb) z hz)
   by_cases hz:(ia+1+1==a.size)=true
   ·rw[uu hz];exact zw ⟨rfl,.inl ⟨_,rfl,last b9 (Cc.mp hz)⟩⟩
   ·rw[rf hz];have gD:ia+1+1≠a.size:=λz=>hz (Cc.mpr z)
    split
    ·exact zw ⟨rfl,.inr ⟨_,_,_,_,_,rfl,b9,'Z',h2,'Z'⟩⟩
    ·exact zw ⟨rfl,_,_,_,_,_,rfl,b9,'Z',h2,'Z'⟩
 clear mi h1 h2 h3;intro c ah z9;obtain⟨rfl,⟨m,e,gd⟩|⟨out,ia,ib,ac,bc,rfl,mi,h1,h2,h3⟩⟩:_:=z9
 ·obtain⟨c1,c2⟩:=c;simp only at e;subst e
  ac_rfl
  nofun
  exact zw ⟨⟨g,rfl⟩,m,rfl,gd⟩
 ac_rfl
 nofun
 refine ue (afZ (ad3 ⟨rfl,?_⟩))
 ac_rfl
 refine ue (adZ (NJ (I:=λq c ah=>(∃g,ah=eX st g)/\∃out ia ib mg ac bc,c=(none,out,ia,ib,mg,ac,bc)/\MI κ a.toList b.toList out.toList ia ib/\ia+1<a.size/\ib<b.size/\t+1+q<=ia+ib)
  (Q:=λc ah=>(∃g,ah=eX st g)/\((∃m,c.1=some m/\Gd κ a.toList b.toList m.toList)\/∃out ia ib mg ac bc,c=(none,out,ia,ib,mg,ac,bc)/\MI κ a.toList b.toList out.toList ia ib/\ia+1<a.size/\ib<b.size/\t+1<=ia+ib)) ?_ ?_ ⟨⟨g,rfl⟩,out,ia,ib,_,ac,bc,rfl,mi,h1,h2,'Z'⟩) ?_)
 rotate_left
 ·intro c ah z9;obtain⟨_,out,ia,ib,mg,ac,bc,rfl,mi,h1,h2,h3⟩:_:=z9;omega
 ·rintro c ah ⟨⟨g,rfl⟩,⟨m,e,gd⟩|⟨out,ia,ib,mg,ac,bc,rfl,mi,h1,h2,h3⟩⟩
  ·obtain⟨c1,c2⟩:=c;simp only at e;subst e
   ac_rfl
   nofun
   exact zw ⟨⟨g,rfl⟩,m,rfl,gd⟩
  ·ac_rfl
   nofun
   ac_rfl
   exact ue (abc (zw ⟨⟨_,rfl⟩,out,ia,ib,_,rfl,mi,h1,h2,h3⟩))
 clear mi h1 h2 h3;intro q c ah _ hq z9;obtain⟨⟨g,rfl⟩,out,ia,ib,mg,ac,bc,rfl,mi,h1,h2,h3⟩:_:=z9
 (extract_lets +onlyGivenNames -merge -underBinder Zi Zj Zk Zm Zn Zo Zq Zr Zt Zu Yc;subst Zi Zj Zk Zm Zn Zo Zq Zr Zt Zu Yc)
 nofun
 extract_lets +onlyGivenNames -merge -underBinder Ng
 obtain⟨jp,fZ⟩:∃z,z=Ng:=⟨Ng,rfl⟩
 rw[<- fZ]
 suffices J:∀mg,wpS (model prog w) A E s (jp () mg) _ (eX st g) by
  nofun
  split
  ·ac_rfl;exact J _
  ·exact J _
 intro mg;rw[fZ]
 nofun
 refine ue (abc ?_);obtain⟨xb,eb,mb⟩:=fB h2;refine ue (dP eb ?_);refine ue (Cb C (key:=xb) hk (kb _ mb) ka 'Z' 'Z' (λi j bV hj=>oh sa 'Z' 'Z') λk k1 k2 k3=>?_)
 nofun
 nofun
 (rw[show k=id k from rfl];extract_lets +onlyGivenNames -merge -underBinder acf;subst acf;(try dsimp -zeta only[id]))
 extract_lets +onlyGivenNames -merge -underBinder Nh
 obtain⟨wL,kB⟩:∃z,z=Nh:=⟨Nh,rfl⟩
 rw[<- kB];have sB:=(dG.mp mi.y).2.1
 suffices J2:∀(out:Array Keyed) (ia:Nat),MI κ a.toList b.toList out.toList ia ib->ia+1<a.size->t+1+q<=ia+ib->κ.klt (kf κ xb) (kA κ a ia)->wpS (model prog w) A E s (wL () out ia) _ (eX st mg) by
  by_cases kU:k>0
  ·rw[uu kU]
   ac_rfl
   have b9:MI κ a.toList b.toList (out++a.extract ia (ia+k)).toList (ia+k) ib:=by
    rw[IS,Lv];refine mi.vk k λx hx z hz=>?_
    obtain⟨j,hj,ex⟩:=mem_mid hx;have:=k2 j hj;rw[cg ex]at this;exact Co this (o9 sB (gb eb) z hz)
   by_cases hz:(ia+k+1==a.size)=true
   ·rw[uu hz];exact zw ⟨⟨_,rfl⟩,.inl ⟨_,rfl,last b9 (Cc.mp hz)⟩⟩
   ·rw[rf hz];have gD:ia+k+1≠a.size:=λz=>hz (Cc.mpr z)
    by_cases hy:(ia+k==a.size)=true
    ·rw[uu hy];have:=Cc.mp hy;exact zw ⟨⟨_,rfl⟩,.inl ⟨_,rfl,by rw[dl];exact b9.acd 'Z'⟩⟩
    ·rw[rf hy];have fY:ia+k≠a.size:=λz=>hy (Cc.mpr z)
     exact J2 _ _ b9 'Z' 'Z' (k3 k (br _) 'Z')
  ·rw[rf kU];exact J2 _ _ mi h1 h3 (k3 0 'Z' 'Z')
 clear mi h1 h3 k1 k2 k3 sB;intro out ia mi h1 h3 bD;rw[kB]
 nofun
 obtain⟨xa,ea,ma⟩:=fB (arr:=a) (i:=ia) 'Z';rw[cg ea]at bD;have sA:=(dG.mp mi.x).2.1;refine ue (dP eb ?_)
 ac_rfl
 have b9:MI κ a.toList b.toList (out.push xb).toList ia (ib+1):=by
  rw[Pe];exact mi.sV (gb eb) λz hz=>Co (LB bD) (o9 sA (ga ea) z hz)
 by_cases hz:(ib+1==b.size)=true
 ·rw[uu hz];have:=Cc.mp hz;exact zw ⟨⟨_,rfl⟩,.inl ⟨_,rfl,by rw[dl];exact b9.zx 'Z'⟩⟩
 rw[rf hz];have gD:ib+1≠b.size:=λz=>hz (Cc.mpr z)
 refine ue (dP ea ?_);refine ue (CG C (key:=xa) hk (ka _ ma) kb 'Z' 'Z' (λi j bV hj=>oh sb 'Z' 'Z') λk k1 k2 k3=>?_)
 nofun
 nofun
 (rw[show k=id k from rfl];extract_lets +onlyGivenNames -merge -underBinder acg;subst acg;(try dsimp -zeta only[id]))
 extract_lets +onlyGivenNames -merge -underBinder Ni
 obtain⟨Ho,vN⟩:∃z,z=Ni:=⟨Ni,rfl⟩
 rw[<- vN]
 suffices J3:∀(out:Array Keyed) (ib:Nat),MI κ a.toList b.toList out.toList ia ib->ib<b.size->t+1+q<=ia+ib->κ.kle (kf κ xa) (kA κ b ib)->wpS (model prog w) A E s (Ho () out ib) _ (eX st mg) by
  by_cases kU:k>0
  ·rw[uu kU]
   ac_rfl
   have tL:MI κ a.toList b.toList (out.push xb++b.extract (ib+1) (ib+1+k)).toList ia (ib+1+k):=by
    rw[IS,Lv];refine b9.vm k λx hx z hz=>?_
    obtain⟨j,hj,ex⟩:=mem_mid hx;have:=k2 j hj;rw[cg ex]at this;exact Co (LB this) (o9 sA (ga ea) z hz)
   by_cases hy:(ib+1+k==b.size)=true
   ·rw[uu hy];have:=Cc.mp hy;exact zw ⟨⟨_,rfl⟩,.inl ⟨_,rfl,by rw[dl];exact tL.zx 'Z'⟩⟩
   ·rw[rf hy];have fY:ib+1+k≠b.size:=λz=>hy (Cc.mpr z)
    exact J3 _ _ tL 'Z' 'Z' (k3 k (br _) 'Z')
  ·rw[rf kU];exact J3 _ _ b9 'Z' 'Z' (k3 0 'Z' 'Z')
 intro out ib mi h2 h3 hle;rw[vN]
 nofun
 obtain⟨xc,ec,mc⟩:=fB h2;rw[cg ec]at hle;have sB:=(dG.mp mi.y).2.1;refine ue (dP ea ?_)
 ac_rfl
 have b9:MI κ a.toList b.toList (out.push xa).toList (ia+1) ib:=by
  rw[Pe];exact mi.sU (ga ea) λz hz=>Co hle (o9 sB (gb ec) z hz)
 by_cases hz:(ia+1+1==a.size)=true
 ·rw[uu hz];exact zw ⟨⟨_,rfl⟩,.inl ⟨_,rfl,last b9 (Cc.mp hz)⟩⟩
 ·rw[rf hz];have gD:ia+1+1≠a.size:=λz=>hz (Cc.mpr z)
  split
  ·exact zw ⟨⟨_,rfl⟩,.inr ⟨_,_,_,_,_,_,rfl,b9,'Z',h2,'Z'⟩⟩
  ·exact zw ⟨⟨_,rfl⟩,_,_,_,_,_,_,rfl,b9,'Z',h2,'Z'⟩
end
structure MH (κ:KeyKind) (a b r:List Keyed) (na nb:Nat):Prop where
 p:((a.take na++b.take nb)++r).Perm (a++b)
 x:fJ κ (a.take na++r)
 y:fJ κ (b.take nb++r)
section
theorem MH.vk (h:MH κ a b r na nb)(t:Nat)(ht:t<=na)(hl:∀x∈b.take nb,∀y∈(a.take na).drop t,κ.kle (kf κ x) (kf κ y)):MH κ a b ((a.take na).drop t++r) t nb:=by
 have e:a.take t++(a.take na).drop t=a.take na:=by
  have:=ET t (a.take na)
  grind
 have hx:=h.x;have hp:=h.p;have hy:=dG.mp h.y;rw[<- e]at hx hp;rw[CS]at hx;have hx2:=dG.mp hx;refine⟨List.Perm.trans ?_ hp,hx,dG.mpr ⟨hy.1,hx2.2.1,λx kK y fY=>?_⟩⟩
 ·grind
 ·grind
theorem MH.vm (h:MH κ a b r na nb)(t:Nat)(ht:t<=nb)(hl:∀x∈a.take na,∀y∈(b.take nb).drop t,κ.kle (kf κ x) (kf κ y)):MH κ a b ((b.take nb).drop t++r) na t:=by
 have e:b.take t++(b.take nb).drop t=b.take nb:=by
  have:=ET t (b.take nb)
  grind
 have hy:=h.y;have hp:=h.p;have hx:=dG.mp h.x;rw[<- e]at hy hp;rw[CS]at hy;have hy2:=dG.mp hy;refine⟨?_,dG.mpr ⟨hx.1,hy2.2.1,λx kK y fY=>?_⟩,hy⟩
 ·grind
 ·grind
theorem xU {l:List Keyed}(e:l[n]?=some x):(l.take (n+1)).drop n=[x]:=by
 obtain⟨h1,rfl⟩:=gz.mp e;rw[aeS h1,List.drop_append_of_le_length (by grind),aei (by grind),List.nil_append]
theorem MH.sU {y:Keyed}(h:MH κ a b r (na+1) nb)(e:a[na]?=some y)(hl:∀z∈b.take nb,κ.kle (kf κ z) (kf κ y)):MH κ a b (y::r) na nb:=by
 have:=h.vk na (ad8 _) (by rw[xU e];intro x hx z hz;rw[BB.mp hz];exact hl x hx);rwa [xU e]at this
theorem MH.sV {y:Keyed}(h:MH κ a b r na (nb+1))(e:b[nb]?=some y)(hl:∀z∈a.take na,κ.kle (kf κ z) (kf κ y)):MH κ a b (y::r) na nb:=by
 have:=h.vm nb (ad8 _) (by rw[xU e];intro x hx z hz;rw[BB.mp hz];exact hl x hx);rwa [xU e]at this
theorem MH.done (h:MH κ a b r na nb)(hz:na=0\/nb=0):Gd κ a b (a.take na++b.take nb++r):=by
 refine⟨h.p,?_⟩;obtain rfl|rfl:=hz
 ·exact h.y
 ·rw[ae4,AS];exact h.x
theorem MH.first (h:MH κ a b r na nb)(hl:∀x∈b.take nb,∀y∈a.take na,κ.kle (kf κ x) (kf κ y)):Gd κ a b (b.take nb++a.take na++r):=by
 refine⟨(SI _ adm).trans h.p,?_⟩;have hy:=dG.mp h.y;rw[CS];refine dG.mpr ⟨hy.1,h.x,λx hx y fY=>?_⟩
 grind
theorem pK {arr:Array Keyed}(h:x∈arr.toList.take n):∃j,j<n/\arr[j]?=some x:=by
 obtain⟨m,hm,e⟩:_:=DO h;rw[Lm]at hm;refine⟨m,'O',?_⟩;rw[<- DD,<- e,aeV,ab]
theorem Ec {arr:Array Keyed}(h:x∈(arr.toList.take n).drop t):∃j,t<=j/\j<n/\arr[j]?=some x:=by
 obtain⟨m,hm,e⟩:_:=DO h;rw[aec,Lm]at hm;refine⟨t+m,'O','Z',?_⟩;rw[<- DD,<- e,List.getElem_drop,aeV,ab]
theorem uW {α:Type}(a:Array α)(n:Nat):(a.extract 0 n).toList=a.toList.take n:=by
 simp_all
theorem uX {α:Type}(a:Array α)(t n:Nat):(a.extract t n).toList=(a.toList.take n).drop t:=by
 rw[Array.toList_extract,afJ,List.drop_take]
end
section
theorem Zv (C:jH prog w A E s kd κ){st:SortSt}(hk:kindOf st=kd)(ka:Kd κ a.toList)(kb:Kd κ b.toList)(sa:fJ κ a.toList)(sb:fJ κ b.toList)(na0 : 0<a.size)(nb0 : 0<b.size)(h0:∀x y,b[0]?=some x->a[0]?=some y->κ.kle (kf κ x) (kf κ y))(hl:∀x∈b.toList,∀y,a[a.size-1]?=some y->κ.kle (kf κ x) (kf κ y))(h:∀(m:Array Keyed) g,Gd κ a.toList b.toList m.toList->Q m (eX st g)):wpS (model prog w) A E s (mHi a b) Q st:=by
 have la:a.toList.length=a.size:=NO;have lb:b.toList.length=b.size:=NO;have ga:∀{i x},a[i]?=some x->a.toList[i]?=some x:=λ{i x} e=>by rw[DD];exact e
 have gb:∀{i x},b[i]?=some x->b.toList[i]?=some x:=λ{i x} e=>by rw[DD];exact e
 have Ql:∀{n j:Nat} {x y:Keyed},x∈a.toList.take n->a[j]?=some y->n<=j+1->κ.kle (kf κ x) (kf κ y):=λ{n j x y} hx ey hn=>by
  obtain⟨i,hi,ex⟩:=pK hx;have:=oh (arr:=a) (κ:=κ) sa (i:=i) (j:=j) 'Z' (aeu.mp ey).1;rwa [cg ex,cg ey]at this
 have Qm:∀{n j:Nat} {x y:Keyed},x∈b.toList.take n->b[j]?=some y->n<=j+1->κ.kle (kf κ x) (kf κ y):=λ{n j x y} hx ey hn=>by
  obtain⟨i,hi,ex⟩:=pK hx;have:=oh (arr:=b) (κ:=κ) sb (i:=i) (j:=j) 'Z' (aeu.mp ey).1;rwa [cg ex,cg ey]at this
 have dl:∀(out:Array Keyed) na nb,(a.extract 0 na++b.extract 0 nb++out.reverse).toList=a.toList.take na++b.toList.take nb++out.toList.reverse:=λout na nb=>by
  rw[IS,IS,uW,uW,aew]
 have first:∀{out:Array Keyed} {na nb},MH κ a.toList b.toList out.toList.reverse na nb->nb=1->Gd κ a.toList b.toList (b.extract 0 nb++a.extract 0 na++out.reverse).toList:=λ{out na nb} mi e=>by
  rw[IS,IS,uW,uW,aew];refine mi.first λx hx y hy=>?_
  obtain⟨i,hi,ex⟩:=pK hx;have hi0:i=0:='Z'
  subst hi0;obtain⟨j,hj,ey⟩:=pK hy;obtain⟨y0,f0,_⟩:=fB na0;have:=oh (arr:=a) (κ:=κ) sa (i:=0) (j:=j) 'Z' (aeu.mp ey).1;rw[cg f0,cg ey]at this;exact Co (h0 x y0 ex f0) this
 refine ue (afZ (ad3 ⟨rfl,?_⟩))
 ac_rfl
 obtain⟨x0,e0,m0⟩:=fB (arr:=a) (i:=a.size-1) 'Z';refine ue (dP e0 ?_)
 ac_rfl
 have wK:MH κ a.toList b.toList [x0] (a.size-1) b.size:=by
  have:MH κ a.toList b.toList [] (a.size-1+1) b.size:=by
   refine⟨?_,?_,?_⟩
   ·rw[AS,List.take_of_length_le 'Z',List.take_of_length_le 'Z']
   ·rw[AS,List.take_of_length_le 'Z'];exact sa
   ·rw[AS,List.take_of_length_le 'Z'];exact sb
  exact this.sU (ga e0) λz hz=>hl z (EN hz) x0 e0
 have Gf:=wK;by_cases gR:(a.size-1==0)=true
 ·rw[uu gR];have:=Cc.mp gR;exact zw (h _ (gallopOf st) (by rw[dl];exact Gf.done (.inl this)))
 rw[rf gR];have ac2:a.size-1≠0:=λz=>gR (Cc.mpr z)
 by_cases nM:(b.size==1)=true
 ·rw[uu nM];exact zw (h _ (gallopOf st) (first Gf (Cc.mp nM)))
 rw[rf nM];have ac3:b.size≠1:=λz=>nM (Cc.mpr z)
 refine ue (afK ?_)
 ac_rfl
 generalize gallopOf st=mg0;refine ue (adZ (NJ (I:=λt c ah=>(∃g,ah=eX st g)/\∃out na nb mg,c=(none,na,nb,out,mg)/\MH κ a.toList b.toList out.toList.reverse na nb/\0<na/\1<nb/\na<=a.size/\nb<=b.size/\na+nb+t<=a.size+b.size)
  (Q:=λc ah=>(∃g,ah=eX st g)/\∃m,c.1=some m/\Gd κ a.toList b.toList m.toList) ?_ ?_ ⟨⟨gallopOf st,rfl⟩,_,_,_,_,rfl,Gf,'Z','Z','Z','Z','Z'⟩) ?_)
 rotate_left
 ·rintro c ah ⟨_,out,na,nb,mg,rfl,mi,h1,h2,h3,h4,h5⟩;omega
 ·rintro c ah ⟨⟨g,rfl⟩,m,e,gd⟩;dsimp only;rw[e];exact zw (h m g gd)
 intro t c ah _ ht z9;obtain⟨⟨g,rfl⟩,out,na,nb,mg,rfl,mi,h1,h2,h3,h4,h5⟩:_:=z9
 ac_rfl
 nofun
 refine ue (adZ (NJ (I:=λq c ah=>ah=eX st g/\∃out na nb ac bc,c=(none,na,nb,out,ac,bc)/\MH κ a.toList b.toList out.toList.reverse na nb/\0<na/\1<nb/\na<=a.size/\nb<=b.size/\na+nb+t+q<=a.size+b.size)
  (Q:=λc ah=>ah=eX st g/\((∃m,c.1=some m/\Gd κ a.toList b.toList m.toList)\/∃out na nb ac bc,c=(none,na,nb,out,ac,bc)/\MH κ a.toList b.toList out.toList.reverse na nb/\0<na/\1<nb/\na<=a.size/\nb<=b.size/\na+nb+t+1<=a.size+b.size)) ?_ ?_ ⟨rfl,out,na,nb,0,0,rfl,mi,h1,h2,h3,h4,'Z'⟩) ?_)
 rotate_left
 ·intro c ah z9;obtain⟨_,out,na,nb,ac,bc,rfl,mi,h1,h2,h3,h4,h5⟩:_:=z9;omega
 rotate_left
 ·clear mi h1 h2 h3 h4 h5;intro q c ah _ hq z9;obtain⟨rfl,out,na,nb,ac,bc,rfl,mi,h1,h2,h3,h4,h5⟩:_:=z9
  ac_rfl
  nofun
  obtain⟨na,rfl⟩:∃n,na=n+1:=⟨na-1,'Z'⟩
  obtain⟨nb,rfl⟩:∃n,nb=n+1:=⟨nb-1,'Z'⟩
  obtain⟨xb,eb,mb⟩:=fB (arr:=b) (i:=nb) 'Z';obtain⟨xa,ea,ma⟩:=fB (arr:=a) (i:=na) 'Z';simp only[afB];refine ue (dP eb (ue (dP ea (ue (C.lt _ xb xa _ hk (kb _ mb) (ka _ ma) ?_)))))
  nofun
  cases bD : κ.blt (kf κ xb) (kf κ xa)with
  |true=>
   rw[uu rfl]
   nofun
   refine ue (dP ea ?_)
   nofun
   have b9:MH κ a.toList b.toList (out.push xa).toList.reverse na (nb+1):=by
    rw[Pe,Zs];exact mi.sU (ga ea) λz hz=>Co (Qm hz eb (br _)) (LB bD)
   by_cases hz:(na==0)=true
   ·rw[uu hz];exact zw ⟨rfl,.inl ⟨_,rfl,by rw[dl];exact b9.done (.inl (Cc.mp hz))⟩⟩
   ·rw[rf hz];have gD:na≠0:=λz=>hz (Cc.mpr z)
    split
    ·exact zw ⟨rfl,.inr ⟨_,_,_,_,_,rfl,b9,'Z','Z','Z','Z','Z'⟩⟩
    ·exact zw ⟨rfl,_,_,_,_,_,rfl,b9,'Z','Z','Z','Z','Z'⟩
  |false=>
   rw[rf 'Q']
   nofun
   refine ue (dP eb ?_)
   nofun
   have b9:MH κ a.toList b.toList (out.push xb).toList.reverse (na+1) nb:=by
    rw[Pe,Zs];exact mi.sV (gb eb) λz hz=>Co (Ql hz ea (br _)) bD
   by_cases hz:(nb==1)=true
   ·rw[uu hz];exact zw ⟨rfl,.inl ⟨_,rfl,first b9 (Cc.mp hz)⟩⟩
   ·rw[rf hz];have gD:nb≠1:=λz=>hz (Cc.mpr z)
    split
    ·exact zw ⟨rfl,.inr ⟨_,_,_,_,_,rfl,b9,'Z','Z','Z','Z','Z'⟩⟩
    ·exact zw ⟨rfl,_,_,_,_,_,rfl,b9,'Z','Z','Z','Z','Z'⟩
 clear mi h1 h2 h3 h4 h5;rintro c ah ⟨rfl,⟨m,e,gd⟩|⟨out,na,nb,ac,bc,rfl,mi,h1,h2,h3,h4,h5⟩⟩
 ·obtain⟨c1,c2⟩:=c;simp only at e;subst e
  ac_rfl
  nofun
  exact zw ⟨⟨g,rfl⟩,m,rfl,gd⟩
 ac_rfl
 nofun
 refine ue (afZ (ad3 ⟨rfl,?_⟩))
 ac_rfl
 refine ue (adZ (NJ (I:=λq c ah=>(∃g,ah=eX st g)/\∃out na nb mg ac bc,c=(none,na,nb,out,mg,ac,bc)/\MH κ a.toList b.toList out.toList.reverse na nb/\0<na/\1<nb/\na<=a.size/\nb<=b.size/\na+nb+t+1+q<=a.size+b.size)
  (Q:=λc ah=>(∃g,ah=eX st g)/\((∃m,c.1=some m/\Gd κ a.toList b.toList m.toList)\/∃out na nb mg ac bc,c=(none,na,nb,out,mg,ac,bc)/\MH κ a.toList b.toList out.toList.reverse na nb/\0<na/\1<nb/\na<=a.size/\nb<=b.size/\na+nb+t+1<=a.size+b.size)) ?_ ?_ ⟨⟨g,rfl⟩,out,na,nb,_,ac,bc,rfl,mi,h1,h2,h3,h4,'Z'⟩) ?_)
 rotate_left
 ·intro c ah z9;obtain⟨_,out,na,nb,mg,ac,bc,rfl,mi,h1,h2,h3,h4,h5⟩:_:=z9;omega
 ·intro c ah z9;obtain⟨⟨g,rfl⟩,⟨m,e,gd⟩|⟨out,na,nb,mg,ac,bc,rfl,mi,h1,h2,h3,h4,h5⟩⟩:_:=z9
  ·obtain⟨c1,c2⟩:=c;simp only at e;subst e
   ac_rfl
   nofun
   exact zw ⟨⟨g,rfl⟩,m,rfl,gd⟩
  ·ac_rfl
   nofun
   ac_rfl
   exact ue (abc (zw ⟨⟨_,rfl⟩,out,na,nb,_,rfl,mi,h1,h2,h3,h4,h5⟩))
 clear mi h1 h2 h3 h4 h5;intro q c ah _ hq z9;obtain⟨⟨g,rfl⟩,out,na,nb,mg,ac,bc,rfl,mi,h1,h2,h3,h4,h5⟩:_:=z9
 (extract_lets +onlyGivenNames -merge -underBinder Zw Zx Zy Zz ZA ZC ZD ZE ZF ZG Yd;subst Zw Zx Zy Zz ZA ZC ZD ZE ZF ZG Yd)
 nofun
 extract_lets +onlyGivenNames -merge -underBinder Nj
 obtain⟨jp,fZ⟩:∃z,z=Nj:=⟨Nj,rfl⟩
 rw[<- fZ]
 suffices J:∀mg,wpS (model prog w) A E s (jp () mg) _ (eX st g) by
  nofun
  split
  ·ac_rfl;exact J _
  ·exact J _
 intro mg;rw[fZ]
 nofun
 refine ue (abc ?_);obtain⟨xb,eb,mb⟩:=fB (arr:=b) (i:=nb-1) 'Z';refine ue (dP eb ?_);refine ue (Cb C (key:=xb) hk (kb _ mb) ka 'Z' 'Z' (λi j bV hj=>oh sa 'Z' 'Z') λk k1 k2 k3=>?_);simp only[WE]at k2 k3
 nofun
 nofun
 (extract_lets +onlyGivenNames -merge -underBinder ZH ZI;subst ZH ZI)
 extract_lets +onlyGivenNames -merge -underBinder Nk
 obtain⟨wL,kB⟩:∃z,z=Nk:=⟨Nk,rfl⟩
 rw[<- kB]
 suffices J2:∀(na:Nat) (out:Array Keyed),MH κ a.toList b.toList out.toList.reverse na nb->0<na->na<=a.size->na+nb+t+1+q<=a.size+b.size->(∀i,i<na->κ.kle (kA κ a i) (kf κ xb))->wpS (model prog w) A E s (wL () na out) _ (eX st mg) by
  by_cases kU:na-k>0
  ·rw[uu kU]
   ac_rfl
   have b9:MH κ a.toList b.toList (out++(a.extract k na).reverse).toList.reverse k nb:=by
    rw[IS,aew,Zs,List.reverse_reverse,uX];refine mi.vk k 'Z' λx hx y hy=>?_
    obtain⟨j,me,oN,ey⟩:=Ec hy;have:=k3 j me oN;rw[cg ey]at this;exact Co (Qm hx eb 'Z') (LB this)
   by_cases hz:(k==0)=true
   ·rw[uu hz];exact zw ⟨⟨_,rfl⟩,.inl ⟨_,rfl,by rw[dl];exact b9.done (.inl (Cc.mp hz))⟩⟩
   ·rw[rf hz];have gD:k≠0:=λz=>hz (Cc.mpr z)
    exact J2 _ _ b9 'Z' 'Z' 'Z' k2
  ·rw[rf kU];have:k=na:='Z'
   subst this;exact J2 _ _ mi h1 h3 'Z' k2
 clear mi h1 h3 h5 k1 k2 k3;intro na out mi h1 h3 h5 hle;rw[kB]
 ac_rfl
 obtain⟨nb,rfl⟩:∃n,nb=n+1:=⟨nb-1,'Z'⟩
 simp -zeta only[afB]at eb ⊢;refine ue (dP eb ?_)
 ac_rfl
 have b9:MH κ a.toList b.toList (out.push xb).toList.reverse na nb:=by
  rw[Pe,Zs];refine mi.sV (gb eb) λz hz=>?_
  obtain⟨i,hi,ez⟩:=pK hz;have:=hle i hi;rwa [cg ez]at this
 by_cases hz:(nb==1)=true
 ·rw[uu hz];exact zw ⟨⟨_,rfl⟩,.inl ⟨_,rfl,first b9 (Cc.mp hz)⟩⟩
 rw[rf hz];have gD:nb≠1:=λz=>hz (Cc.mpr z)
 obtain⟨xa,ea,ma⟩:=fB (arr:=a) (i:=na-1) 'Z';refine ue (dP ea ?_);refine ue (CG C (key:=xa) hk (ka _ ma) kb 'Z' 'Z' (λi j bV hj=>oh sb 'Z' 'Z') λk k1 k2 k3=>?_);simp only[WE]at k2 k3
 nofun
 nofun
 (extract_lets +onlyGivenNames -merge -underBinder ZJ ZK;subst ZJ ZK)
 extract_lets +onlyGivenNames -merge -underBinder Nm
 obtain⟨Ho,vN⟩:∃z,z=Nm:=⟨Nm,rfl⟩
 rw[<- vN]
 suffices J3:∀(nb:Nat) (out:Array Keyed),MH κ a.toList b.toList out.toList.reverse na nb->1<nb->nb<=b.size->na+nb+t+1+q+1<=a.size+b.size->(∀i,i<nb->κ.kle (kA κ b i) (kf κ xa))->wpS (model prog w) A E s (Ho () nb out) _ (eX st mg) by
  by_cases kU:nb-k>0
  ·rw[uu kU]
   ac_rfl
   have tL:MH κ a.toList b.toList (out.push xb++(b.extract k nb).reverse).toList.reverse na k:=by
    rw[IS,aew,Zs,List.reverse_reverse,uX];refine b9.vm k 'Z' λx hx y hy=>?_
    obtain⟨j,me,oN,ey⟩:=Ec hy;have:=k3 j me oN;rw[cg ey]at this;exact Co (Ql hx ea 'Z') this
   by_cases hy:(k==1)=true
   ·rw[uu hy];exact zw ⟨⟨_,rfl⟩,.inl ⟨_,rfl,first tL (Cc.mp hy)⟩⟩
   ·rw[rf hy];have fY:k≠1:=λz=>hy (Cc.mpr z)
    by_cases hx:(k==0)=true
    ·rw[uu hx];exact zw ⟨⟨_,rfl⟩,.inl ⟨_,rfl,by rw[dl];exact tL.done (.inr (Cc.mp hx))⟩⟩
    ·rw[rf hx];have kK:k≠0:=λz=>hx (Cc.mpr z)
     exact J3 _ _ tL 'Z' 'Z' 'Z' λi hi=>LB (k2 i hi)
  ·rw[rf kU];have:k=nb:='Z'
   subst this;exact J3 _ _ b9 'Z' 'Z' 'Z' λi hi=>LB (k2 i hi)
 clear mi b9 h2 h4 h5 k1 k2 k3 hz gD eb;intro nb out mi h2 h4 h5 ac4;rw[vN]
 ac_rfl
 obtain⟨na,rfl⟩:∃n,na=n+1:=⟨na-1,'Z'⟩
 simp only[afB]at ea ⊢;refine ue (dP ea ?_)
 nofun
 have b9:MH κ a.toList b.toList (out.push xa).toList.reverse na nb:=by
  rw[Pe,Zs];refine mi.sU (ga ea) λz hz=>?_
  obtain⟨i,hi,ez⟩:=pK hz;have:=ac4 i hi;rwa [cg ez]at this
 by_cases hz:(na==0)=true
 ·rw[uu hz];exact zw ⟨⟨_,rfl⟩,.inl ⟨_,rfl,by rw[dl];exact b9.done (.inl (Cc.mp hz))⟩⟩
 ·rw[rf hz];have gD:na≠0:=λz=>hz (Cc.mpr z)
  split
  ·exact zw ⟨⟨_,rfl⟩,.inr ⟨_,_,_,_,_,_,rfl,b9,'Z',h2,'Z',h4,'O'⟩⟩
  ·exact zw ⟨⟨_,rfl⟩,_,_,_,_,_,_,rfl,b9,'Z',h2,'Z',h4,'O'⟩
end
structure SB (kd:SortKind) (a0:Array Keyed) (p:Array (Nat×Nat×Nat)) (lo:Nat) (x0:Array Keyed) (st:SortSt):Prop where
 perm:(arrOf st).Perm a0
 kind:kindOf st=kd
 fail:failedOf st=none
 pend:pendingOf st=p
 low:∀i,i<lo->(arrOf st)[i]?=x0[i]?
def SS (κ:KeyKind)(xs:Array Keyed)(lo n:Nat):Prop:=∀i j,i<=j->j<n->κ.kle (kA κ xs (lo+i)) (kA κ xs (lo+j))
def DS (κ:KeyKind)(xs:Array Keyed)(lo n:Nat):Prop:=∀i j,i<=j->j<n->κ.kle (kA κ xs (lo+j)) (kA κ xs (lo+i))
section
variable {lo:Nat}{st:SortSt}
theorem SB.size (h:SB kd a0 p lo x0 st):(arrOf st).size=a0.size:=h.perm.size_eq
theorem SB.set (h:SB kd a0 p lo x0 st)(hp:xs.Perm (arrOf st))(hl:∀i,i<lo->xs[i]?=(arrOf st)[i]?):SB kd a0 p lo x0 (setArr st xs):=
 ⟨hp.trans h.perm,h.kind,h.fail,h.pend,λi hi=>(hl i hi).trans (h.low i hi)⟩
theorem SB.keys (h:SB kd a0 p lo x0 st)(k:Kd κ a0.toList):Kd κ (arrOf st).toList:=λx hx=>k x ((aev.mp h.perm).mem_iff.mp hx)
theorem pd (e:xs[i]?=ys[j]?):kA κ xs i=kA κ ys j:=by unfold kA;rw[e]
theorem Cd (hj:j<=xs.size)(k:Nat):kA κ (mirror xs i j ((j-i)/2)) k=if i<=k/\k<j then kA κ xs (i+j-1-k)else kA κ xs k:=by
 have e:=getElem?_mirror_all (i:=i) hj k;split
 ·rename_i z;rw[uu z]at e;exact pd e
 ·rename_i z;rw[rf z]at e;exact pd e
theorem xP {xs:Array Keyed}(hj:j<=xs.size)(k:Nat)(hk:k<i):(mirror xs i j ((j-i)/2))[k]?=xs[k]?:=by
 rw[getElem?_mirror_all hj,rf 'O']
theorem uG (hj:j<=xs.size)(he:∀k,i<=k->k<j->kA κ xs k=kA κ xs (j-1))(k:Nat):kA κ (mirror xs i j ((j-i)/2)) k=kA κ xs k:=by
 rw[Cd hj]
 grind
theorem JH (hs:src<xs.size)(hd:d<=src)(k:Nat):kA κ (bubble xs src d) k=if k=src-d then kA κ xs src else if src-d<k/\k<=src then kA κ xs (k-1)else kA κ xs k:=by
 have e:=getElem?_bubble hs d hd k;split
 ·rename_i z;rw[uu z]at e;exact pd e
 ·rename_i z
  rw[rf z]at e;split
  ·rename_i z2;rw[uu z2]at e;exact pd e
  ·rename_i z2;rw[rf z2]at e;exact pd e
theorem Wd {xs:Array Keyed}(hs:src<xs.size)(hd:d<=src)(k:Nat)(hk:k<src-d):(bubble xs src d)[k]?=xs[k]?:=by
 rw[getElem?_bubble hs d hd,rf 'O',rf 'O']
end
section
variable {lo:Nat}
theorem sG (C:jH prog w A E s kd κ)(k0:Kd κ a0.toList){st:SortSt}(hB:SB kd a0 p lo x0 st)(hi:i<a0.size)(hj:j<a0.size)(h:Q (some (κ.blt (kA κ (arrOf st) i) (kA κ (arrOf st) j))) st):wpS (model prog w) A E s (ltAt' i j) Q st:=by
 obtain⟨x,ex,mx⟩:_:=fB (by rw[hB.size];exact hi);obtain⟨y,ey,my⟩:=fB (by rw[hB.size];exact hj);rw[cg ex,cg ey]at h;refine ue (afK ?_);exact ue (dP ex (ue (dP ey (C.lt st x y _ hB.kind (hB.keys k0 x mx) (hB.keys k0 y my) h))))
theorem Np (C:jH prog w A E s kd κ)(k0:Kd κ a0.toList){st:SortSt}(hB:SB kd a0 p lo x0 st)(n1 : 1<=n)(hn:n<=iB)(hr:lo+iB<=a0.size)(hs:SS κ (arrOf st) lo n)(f:Nat->(Option (Option Nat)×Nat)->SM (ForInStep (Option (Option Nat)×Nat)))(hf:∀(x n:Nat) (Q:ForInStep (Option (Option Nat)×Nat)->SortSt->Prop),1<=n->n<iB->(κ.klt (kA κ (arrOf st) (lo+n)) (kA κ (arrOf st) (lo+n-1))->Q (.done (none,n)) st)->(κ.kle (kA κ (arrOf st) (lo+n-1)) (kA κ (arrOf st) (lo+n))->Q (.yield (none,n+1)) st)->wpS (model prog w) A E s (f x (none,n)) Q st):
  wpS (model prog w) A E s (forIn [n:iB] ((none,n):Option (Option Nat)×Nat) f) (λc ah=>ah=st/\∃m,c=(none,m)/\n<=m/\m<=iB/\SS κ (arrOf st) lo m/\(m=iB\/κ.klt (kA κ (arrOf st) (lo+m)) (kA κ (arrOf st) (lo+m-1)))) st:=by
 refine NJ (I:=λt c ah=>ah=st/\c=(none,t)/\SS κ (arrOf st) lo t) ?_ ?_ ⟨rfl,rfl,hs⟩
 ·rintro t c ah h1 h2 ⟨rfl,rfl,tM⟩;refine hf t t _ 'O' h2 (λz=>⟨rfl,t,rfl,h1,'O',tM,.inr z⟩) (λz=>⟨rfl,rfl,λi j bV hj=>?_⟩);by_cases e:j<t
  ·exact tM i j bV e
  ·by_cases e2:i=j
   ·subst e2;exact NL _
   ·refine Co (tM i (j-1) 'O' 'O') ?_
    grind
 ·simp_all
theorem Nq (C:jH prog w A E s kd κ)(k0:Kd κ a0.toList){st:SortSt}(hB:SB kd a0 p lo x0 st)(n1 : 1<=iB)(hr:lo+iB<=a0.size)(h:∀m ah,SB kd a0 p lo x0 ah->1<=m->m<=iB->SS κ (arrOf ah) lo m->Q (some m) ah):wpS (model prog w) A E s (countRun' lo iB) Q st:=by
 have s1:SS κ (arrOf st) lo 1:=λi j bV hj=>by
  have:i=j:='Z'
  subst this;exact NL _
 refine ue (adZ (Np C k0 hB (br 1) n1 hr s1 _ λx n Q h1 h2 q1 q2=>?_) ?_)
 ·ac_rfl
  refine ue (sG C k0 hB 'Z' 'Z' ?_)
  nofun
  cases e : κ.blt (kA κ (arrOf st) (lo+n)) (kA κ (arrOf st) (lo+n-1))with
  |true=>rw[uu rfl];exact zw (q1 e)
  |false=>rw[rf 'Q'];ac_rfl;exact zw (q2 e)
 intro c ah z9;obtain⟨rfl,n,rfl,m1,m2,hs,Hq⟩:_:=z9
 ac_rfl
 nofun
 by_cases hz:(n==iB)=true
 ·rw[uu hz];exact zw (h n _ hB m1 m2 hs)
 rw[rf hz];have gD:n≠iB:=λz=>hz (Cc.mpr z)
 have bD:=Hq.resolve_left gD
 extract_lets +onlyGivenNames -merge -underBinder O5
 obtain⟨jp,fZ⟩:∃z,z=O5:=⟨O5,rfl⟩
 rw[<- fZ]
 suffices J:∀st,SB kd a0 p lo x0 st->DS κ (arrOf st) lo (n+1)->wpS (model prog w) A E s (jp ()) Q st by
  by_cases hg:n>1
  ·rw[uu hg];refine ue (sG C k0 hB 'Z' 'Z' ?_)
   nofun
   cases e : κ.blt (kA κ (arrOf ah) lo) (kA κ (arrOf ah) (lo+n-1))with
   |true=>rw[uu rfl];exact zw (h n _ hB m1 m2 hs)
   |false=>
    have cT:lo+n<=(arrOf ah).size:=by rw[hB.size];omega
    have all:∀k,lo<=k->k<lo+n->kA κ (arrOf ah) k=kA κ (arrOf ah) (lo+n-1):=λk b1 b2=>by
     have c1:=hs 0 (k-lo) 'Z' 'Z';have c2:=hs (k-lo) (n-1) 'Z' 'Z';rw[show lo+(k-lo)=k by omega]at c1 c2;rw[show lo+(n-1)=lo+n-1 by omega]at c2;exact KeyOrd.kle_antisymm c2 (Co (show κ.kle _ _ from e) c1)
    refine ue (abc (J _ (hB.set (mirror_perm _ _ _ _) λi hi=>xP cT i hi) λi j bV hj=>?_));show κ.kle (kA κ (mirror (arrOf ah) _ _ _) _) (kA κ (mirror (arrOf ah) _ _ _) _);rw[uG cT all,uG cT all];by_cases hjn:j<n
    ·rw[all (lo+i) 'Z' 'Z',all (lo+j) 'Z' 'Z'];exact NL _
    ·have:j=n:='Z'
     subst this;by_cases e2:i=j
     ·subst e2;exact NL _
     ·rw[all (lo+i) 'Z' 'Z'];exact LB bD
  ·have:n=1:='Z'
   subst this;refine J _ hB λi j bV hj=>?_
   by_cases e2:i=j
   ·subst e2;exact NL _
   ·have i0:i=0:='Z'
    have j1:j=1:='Z'
    subst i0 j1;exact LB bD
 intro st hB hd;rw[fZ]
 nofun
 refine ue (afZ (ad3 ⟨rfl,?_⟩))
 ac_rfl
 refine ue (adZ (NJ (I:=λt c ah=>∃q,c=(none,t,q)/\SB kd a0 p lo x0 ah/\DS κ (arrOf ah) lo t/\q+1<=t/\∀i,t-(q+1)<=i->i<t->kA κ (arrOf ah) (lo+i)=kA κ (arrOf ah) (lo+t-1))
  (Q:=λc ah=>∃t q,c=(none,t,q)/\1<=t/\t<=iB/\SB kd a0 p lo x0 ah/\DS κ (arrOf ah) lo t/\q+1<=t/\∀i,t-(q+1)<=i->i<t->kA κ (arrOf ah) (lo+i)=kA κ (arrOf ah) (lo+t-1)) ?_ ?_ ⟨0,rfl,hB,hd,'Z',λi b1 b2=>by rw[show lo+i=lo+(n+1)-1 by omega]⟩) ?_)
 ·intro t c ah t1 t2 z9;obtain⟨q,rfl,hB,hd,hq,he⟩:_:=z9;have cT:lo+t<=(arrOf ah).size:=by rw[hB.size];omega
  ac_rfl
  nofun
  refine ue (sG C k0 hB 'Z' 'Z' ?_)
  nofun
  extract_lets +onlyGivenNames -merge -underBinder Nr
  obtain⟨j1,me⟩:∃z,z=Nr:=⟨Nr,rfl⟩
  rw[<- me];cases e : κ.blt (kA κ (arrOf ah) (lo+t)) (kA κ (arrOf ah) (lo+t-1))with
  |true=>
   rw[uu rfl]
   extract_lets +onlyGivenNames -merge -underBinder Nt
   obtain⟨j2,oN⟩:∃z,z=Nt:=⟨Nt,rfl⟩
   rw[<- oN];have step:∀xs:Array Keyed,(∀k,kA κ xs k=kA κ (arrOf ah) k)->DS κ xs lo (t+1):=λxs hk i j bV hj=>by
    rw[hk,hk];by_cases Hr:j<t
    ·exact hd i j bV Hr
    ·have:j=t:='Z'
     subst this;by_cases e2:i=j
     ·subst e2;exact NL _
     ·refine Co (LB e) ?_;have:=hd i (j-1) 'Z' 'Z';rwa [show lo+(j-1)=lo+j-1 by omega]at this
   have jW:∀k,lo+t-(q+1)<=k->k<lo+t->kA κ (arrOf ah) k=kA κ (arrOf ah) (lo+t-1):=λk b1 b2=>by
    have:=he (k-lo) 'Z' 'Z';rwa [show lo+(k-lo)=k by omega]at this
   split
   ·refine ue (abc ?_);rw[oN]
    ac_rfl
    rw[me]
    ac_rfl
    exact zw ⟨0,rfl,hB.set (mirror_perm _ _ _ _) λi hi=>xP cT i 'Z',step _ (uG cT jW),'Z',λi b1 b2=>by rw[show lo+i=lo+(t+1)-1 by omega]⟩
   ·rw[oN]
    ac_rfl
    rw[me]
    ac_rfl
    exact zw ⟨0,rfl,hB,step _ (λ_=>rfl),'Z',λi b1 b2=>by rw[show lo+i=lo+(t+1)-1 by omega]⟩
  |false=>
   refine ue (sG C k0 hB 'Z' 'Z' ?_)
   nofun
   cases e2 : κ.blt (kA κ (arrOf ah) (lo+t-1)) (kA κ (arrOf ah) (lo+t))with
   |true=>
    exact zw ⟨t,q,rfl,'Z','Z',hB,hd,hq,he⟩
   |false=>
    ac_rfl
    rw[me]
    ac_rfl
    have eq:=KeyOrd.kle_antisymm e2 e;refine zw ⟨q+1,rfl,hB,λi j bV hj=>?_,'Z',λi b1 b2=>?_⟩
    ·by_cases Hr:j<t
     ·exact hd i j bV Hr
     ·have:j=t:='Z'
      subst this;by_cases e3:i=j
      ·subst e3;exact NL _
      ·rw[eq];have:=hd i (j-1) 'Z' 'Z';rwa [show lo+(j-1)=lo+j-1 by omega]at this
    ·rw[show lo+(t+1)-1=lo+t by omega];by_cases hit:i=t
     ·subst hit;rfl
     ·rw[eq];exact he i 'Z' 'Z'
 ·rintro c ah ⟨q,rfl,hB,hd,hq,he⟩;rw[show max (n+1) iB=iB by omega]at hd hq he ⊢;exact⟨iB,q,rfl,'Z',br _,hB,hd,hq,he⟩
 clear hB hd;intro c ah z9;obtain⟨t,q,rfl,t1,t2,hB,hd,hq,he⟩:_:=z9;have cT:lo+t<=(arrOf ah).size:=by rw[hB.size];omega
 (extract_lets +onlyGivenNames -merge -underBinder ZL ZM ZN ZO;subst ZL ZM ZN ZO)
 nofun
 extract_lets +onlyGivenNames -merge -underBinder Nu
 obtain⟨j3,Rq⟩:∃z,z=Nu:=⟨Nu,rfl⟩
 rw[<- Rq]
 suffices J3:∀st,SB kd a0 p lo x0 st->DS κ (arrOf st) lo t->wpS (model prog w) A E s (j3 ()) Q st by
  split
  ·have jW:∀k,lo+t-(q+1)<=k->k<lo+t->kA κ (arrOf ah) k=kA κ (arrOf ah) (lo+t-1):=λk b1 b2=>by
    have:=he (k-lo) 'Z' 'Z';rwa [show lo+(k-lo)=k by omega]at this
   refine ue (abc (J3 _ (hB.set (mirror_perm _ _ _ _) λi hi=>xP cT i 'Z') λi j bV hj=>?_));show κ.kle (kA κ (mirror (arrOf ah) _ _ _) _) (kA κ (mirror (arrOf ah) _ _ _) _);rw[uG cT jW,uG cT jW];exact hd i j bV hj
  ·exact J3 _ hB hd
 intro st hB hd;rw[Rq]
 nofun
 have cT:lo+t<=(arrOf st).size:=by rw[hB.size];omega
 refine ue (abc ?_);have nN:=hB.set (mirror_perm _ _ _ _) λi hi=>xP cT i hi
 refine ue (adZ (Np C k0 nN t1 t2 hr (λi j bV hj=>?_) _ λx n Q h1 h2 q1 q2=>?_) ?_)
 ·rw[Cd cT,Cd cT,uu 'Z',uu 'Z'];have:=hd (t-1-j) (t-1-i) 'Z' 'Z';rwa [show lo+(t-1-i)=lo+(lo+t)-1-(lo+i) by omega,show lo+(t-1-j)=lo+(lo+t)-1-(lo+j) by omega]at this
 ·ac_rfl
  refine ue (sG C k0 nN 'Z' 'Z' ?_)
  nofun
  cases e : κ.blt (kA κ (arrOf (setArr st (mirror (arrOf st) lo (lo+t) ((lo+t-lo)/2)))) (lo+n)) (kA κ (arrOf (setArr st (mirror (arrOf st) lo (lo+t) ((lo+t-lo)/2)))) (lo+n-1))with
  |true=>rw[uu rfl];exact zw (q1 e)
  |false=>rw[rf 'Q'];ac_rfl;exact zw (q2 e)
 ·rintro c ah ⟨rfl,m,rfl,b1,b2,hs,_⟩
  ac_rfl
  nofun
  exact zw (h m _ nN 'Z' b2 hs)
theorem Nv (C:jH prog w A E s kd κ)(k0:Kd κ a0.toList){st:SortSt}(hB:SB kd a0 p lo x0 st)(hn:lo+n<=a0.size)(aL:ok<=n)(hs:SS κ (arrOf st) lo ok)(h:∀ah,SB kd a0 p lo x0 ah->SS κ (arrOf ah) lo n->Q true ah):wpS (model prog w) A E s (binarySort' lo n ok) Q st:=by
 refine ue (adZ (NJ (I:=λt c ah=>c=(none,())/\SB kd a0 p lo x0 ah/\SS κ (arrOf ah) lo (min t n))
  (Q:=λc ah=>c=(none,())/\SB kd a0 p lo x0 ah/\SS κ (arrOf ah) lo n) ?_ ?_ ⟨rfl,hB,λi j bV hj=>?_⟩) ?_)
 ·intro t c ah t1 t2 z9;obtain⟨rfl,hB,hs⟩:_:=z9;rw[show min t n=t by lia]at hs
  ac_rfl
  refine ue (adZ (NJ (I:=λx c aZ=>aZ=ah/\∃l r,c=(none,l,r)/\l<=r/\r<=t/\r-l<=t-x/\(∀i,i<l->κ.kle (kA κ (arrOf ah) (lo+i)) (kA κ (arrOf ah) (lo+t)))/\(∀i,r<=i->i<t->κ.klt (kA κ (arrOf ah) (lo+t)) (kA κ (arrOf ah) (lo+i))))
   (Q:=λc aZ=>aZ=ah/\∃l,c=(none,l,l)/\l<=t/\(∀i,i<l->κ.kle (kA κ (arrOf ah) (lo+i)) (kA κ (arrOf ah) (lo+t)))/\(∀i,l<=i->i<t->κ.klt (kA κ (arrOf ah) (lo+t)) (kA κ (arrOf ah) (lo+i)))) ?_ ?_ ⟨rfl,0,t,rfl,'O','O','O',λi z=>'O',λi z1 z2=>'O'⟩) ?_)
  ·intro x c aZ _ hx z9;obtain⟨rfl,l,r,rfl,a1,a2,a3,a4,a5⟩:_:=z9
   ac_rfl
   nofun
   by_cases hg:l>=r
   ·rw[uu hg];have:l=r:='O'
    subst this;exact zw ⟨rfl,l,rfl,a2,a4,a5⟩
   ·rw[rf hg]
    ac_rfl
    refine ue (sG C k0 hB 'O' 'O' ?_)
    nofun
    cases e : κ.blt (kA κ (arrOf aZ) (lo+t)) (kA κ (arrOf aZ) (lo+(l+r)/2))with
    |true=>
     ac_rfl
     exact zw ⟨rfl,l,(l+r)/2,rfl,'O','O','O',a4,λi z1 z2=>KeyOrd.klt_of_klt_of_kle e (hs _ _ z1 z2)⟩
    |false=>
     ac_rfl
     exact zw ⟨rfl,(l+r)/2+1,r,rfl,'O','O','O',λi z=>Co (hs i ((l+r)/2) 'O' 'O') e,a5⟩
  ·intro c aZ z9;obtain⟨rfl,l,r,rfl,a1,a2,a3,a4,a5⟩:_:=z9;have:l=r:='O'
   subst this;exact⟨rfl,l,rfl,a2,a4,a5⟩
  ·intro c aZ z9;obtain⟨rfl,l,rfl,a2,a4,a5⟩:_:=z9
   ac_rfl
   nofun
   have cT:lo+t<(arrOf aZ).size:=by rw[hB.size];lia
   refine ue (abc (zw ⟨rfl,hB.set (bubble_perm _ _ _) λi hi=>Wd cT 'O' i 'O',?_⟩));intro i j bV hj;show κ.kle (kA κ (bubble (arrOf aZ) (lo+t) (lo+t-(lo+l))) _) (kA κ (bubble (arrOf aZ) (lo+t) (lo+t-(lo+l))) _);rw[JH cT 'O',JH cT 'O',show lo+t-(lo+t-(lo+l))=lo+l by lia]
   repeat' split
   all_goals first
    |(exfalso;lia)
    |exact NL _
    |exact a4 _ 'O'
    |exact hs _ _ 'O' 'O'
    |(have z:=a5 (j-1) 'O' 'O';rw[show lo+(j-1)=lo+j-1 by lia]at z;exact LB z)
    |(have z:=hs (i-1) (j-1) 'O' 'O';rw[show lo+(i-1)=lo+i-1 by lia,show lo+(j-1)=lo+j-1 by lia]at z;exact z)
    |(have z:=hs i (j-1) 'O' 'O';rw[show lo+(j-1)=lo+j-1 by lia]at z;exact z)
 ·rintro c ah ⟨rfl,hB,hs⟩;rw[show min (max (max ok 1) n) n=n by lia]at hs;exact⟨rfl,hB,hs⟩
 ·by_cases e:ok=0
  ·have:i=j:='O'
   subst this;exact NL _
  ·exact hs i j bV 'O'
 ·rintro c ah ⟨rfl,hB,hs⟩
  ac_rfl
  nofun
  exact zw (h ah hB hs)
theorem Ke {α:Type}(sa:Nat):∀m k (xs:Array α),sa+k+m.length<=xs.size->((m.zipIdx k).foldl (λa x=>a.setIfInBounds (sa+x.2) x.1) xs).toList=xs.toList.take (sa+k)++m++xs.toList.drop (sa+k+m.length)
 |[] => λk xs h=>by
  simp_all
 |x::m=>λk xs h=>by
  rw[List.zipIdx_cons,aeJ,Ke sa m (k+1) _ (by grind),Array.toList_setIfInBounds];have hl:sa+k<xs.toList.length:=by grind
  rw[show sa+(k+1)=sa+k+1 by lia,aeS 'J',List.getElem_set_self,List.take_set_of_le (br _),List.drop_set_of_lt 'O',ID,show sa+k+1+m.length=sa+k+(m.length+1) by lia];simp
theorem rX {arr:Array Keyed}(h:x∈(arr.extract i n).toList):∃j,i<=j/\j<n/\arr[j]?=some x:=by
 rw[uX]at h;exact Ec h
theorem yz (h:∀a b,i<=a->a<=b->b<n->κ.kle (kA κ arr a) (kA κ arr b))(hn:n<=arr.size):fJ κ (arr.extract i n).toList:=by
 unfold fJ;rw[OP];intro a b ha hb ck;have get:∀c (hc),arr[i+c]?=some ((arr.extract i n).toList[c]):=λc hc=>by
  simp_all
 have lb:b<(arr.extract i n).size:='Z'
 rw[afC]at lb;have:=h (i+a) (i+b) 'O' 'O' 'O';rwa [cg (get a ha),cg (get b hb)]at this
end
section
theorem Lw (h1:SS κ arr 0 n1)(h2:SS κ arr n1 (n-n1))(h:∀i j,i<n1->n1<=j->j<n->κ.kle (kA κ arr i) (kA κ arr j)):∀i j,i<=j->j<n->κ.kle (kA κ arr i) (kA κ arr j):=λi j bV hj=>by
 by_cases z1:j<n1
 ·have:=h1 i j bV z1
  simp_all
 ·by_cases z2:i<n1
  ·simp_all
  ·have:=h2 (i-n1) (j-n1) 'O' 'O'
   simp_all
structure Gg (kd:SortKind) (κ:KeyKind) (a0:Array Keyed) (st:SortSt):Prop where
 perm:(arrOf st).Perm a0
 fail:failedOf st=none
 one:(pendingOf st).size=1
 wI:∀i j,i<=j->j<a0.size->κ.kle (kA κ (arrOf st) i) (kA κ (arrOf st) j)
theorem VI (C:jH prog w A E s kd κ)(k0:Kd κ a0.toList){st:SortSt}(hB:SB kd a0 #[(0,n1,pw),(n1,a0.size-n1,q)] 0 x0 st)(h1 : 1<=n1)(h2:n1<a0.size)(s1:SS κ (arrOf st) 0 n1)(s2:SS κ (arrOf st) n1 (a0.size-n1))(h:∀ah,Gg kd κ a0 ah->Q true ah):wpS (model prog w) A E s (mergeAt' 0) Q st:=by
 have sz:=hB.size;have kk:=hB.keys k0;refine ue (afK ?_)
 nofun
 have e0:(pendingOf st)[0]?=some (0,n1,pw):=by rw[hB.pend];rfl
 have e1:(pendingOf st)[0+1]?=some (n1,a0.size-n1,q):=by rw[hB.pend];rfl
 obtain⟨P,eP,hP⟩:∃P,((pendingOf st).setIfInBounds 0 (0,n1+(a0.size-n1),pw)).eraseIdxIfInBounds (0+1)=P/\P.size=1:=⟨_,rfl,by rw[hB.pend];simp[Array.eraseIdxIfInBounds]⟩
 show wpS (model prog w) A E s (match((pendingOf st)[0]?,(pendingOf st)[0+1]?)with|_=>_) Q st;rw[e0,e1]
 nofun
 refine ue ?_;rw[eP];unfold wpS;rw[StateT.run_set];refine wpAny_pure ⟨rfl,?_⟩;show wpS (model prog w) A E s _ Q (SortSt.mk' (kindOf st) (arrOf st) P (gallopOf st) (failedOf st));obtain⟨xb,eb,mb⟩:=fB (arr:=arrOf st) (i:=n1) 'Z';refine ue (dP eb ?_);refine ue (Cb C (arr:=arrOf st) (key:=xb) hB.kind (kk _ mb) kk 'Z' 'Z' (λi j bV hj=>s1 i j bV hj) λk k1 k2 k3=>?_);simp only[WE]at k2 k3
 nofun
 have up:∀i j,n1<=i->i<=j->j<a0.size->κ.kle (kA κ (arrOf st) i) (kA κ (arrOf st) j):=λi j z1 z2 z3=>by
  have:=s2 (i-n1) (j-n1) 'Z' 'Z';rwa [show n1+(i-n1)=i by omega,show n1+(j-n1)=j by omega]at this
 have dn:∀i j,i<=j->j<n1->κ.kle (kA κ (arrOf st) i) (kA κ (arrOf st) j):=λi j z1 z2=>by
  have:=s1 i j z1 z2;rwa [WE,WE]at this
 by_cases hz:(n1-k==0)=true
 ·rw[uu hz];have gD:=Cc.mp hz;refine zw (h _ ⟨hB.perm,hB.fail,hP,Lw s1 s2 λi j z1 z2 z3=>?_⟩);have:=k2 i 'Z';rw[<- cg (κ:=κ) eb]at this;exact Co this (up n1 j (br _) z2 z3)
 rw[rf hz];have gD:n1-k≠0:=λz=>hz (Cc.mpr z)
 obtain⟨xa,ea,ma⟩:=fB (arr:=arrOf st) (i:=0+k+(n1-k)-1) 'Z';refine ue (dP ea ?_);rw[show 0+k+(n1-k)-1=n1-1 by omega]at ea;refine ue (CG C (arr:=arrOf st) (key:=xa) hB.kind (kk _ ma) kk 'Z' 'Z' (λi j bV hj=>s2 i j bV hj) λl l1 l2 l3=>?_)
 nofun
 by_cases hy:(l==0)=true
 ·rw[uu hy];have fY:=Cc.mp hy;refine zw (h _ ⟨hB.perm,hB.fail,hP,Lw s1 s2 λi j z1 z2 z3=>?_⟩);have:=l3 (j-n1) 'Z' 'Z';rw[<- cg (κ:=κ) ea,show n1+(j-n1)=j by omega]at this;exact Co (dn i (n1-1) 'Z' 'Z') this
 rw[rf hy];have fY:l≠0:=λz=>hy (Cc.mpr z)
 (extract_lets +onlyGivenNames -merge -underBinder abi abj;subst abi abj)
 extract_lets +onlyGivenNames -merge -underBinder Fh
 obtain⟨jp,fZ⟩:∃z,z=Fh:=⟨Fh,rfl⟩
 rw[<- fZ];unfold Fh at fZ;rw[WE]at fZ ⊢;have sA:fJ κ ((arrOf st).extract k n1).toList:=yz (λa b z1 z2 z3=>dn a b z2 z3) 'Z';have sB:fJ κ ((arrOf st).extract n1 (n1+l)).toList:=yz (λa b z1 z2 z3=>up a b z1 z2 'Z') 'Z';have Rr:Kd κ ((arrOf st).extract k n1).toList:=λx hx=>by
  obtain⟨j,_,_,e⟩:=rX hx;exact kk x (by have:=ba (by rw[DD];exact e:(arrOf st).toList[j]?=some x);exact this)
 have Rt:Kd κ ((arrOf st).extract n1 (n1+l)).toList:=λx hx=>by
  obtain⟨j,_,_,e⟩:=rX hx;exact kk x (by have:=ba (by rw[DD];exact e:(arrOf st).toList[j]?=some x);exact this)
 have zA:((arrOf st).extract k n1).size=n1-k:=by rw[afC];omega
 have zB:((arrOf st).extract n1 (n1+l)).size=l:=by rw[afC];omega
 have gA:∀i,i<n1-k->((arrOf st).extract k n1)[i]?=(arrOf st)[k+i]?:=λi hi=>by rw[Array.getElem?_extract,uu 'Z']
 have gB:∀i,i<l->((arrOf st).extract n1 (n1+l))[i]?=(arrOf st)[n1+i]?:=λi hi=>by rw[Array.getElem?_extract,uu 'Z']
 have first:∀x y,((arrOf st).extract n1 (n1+l))[0]?=some x->((arrOf st).extract k n1)[0]?=some y->κ.kle (kf κ x) (kf κ y):=λx y ex ey=>by
  rw[gB 0 'Z']at ex;rw[gA 0 'Z']at ey;have:=k3 k (br _) 'Z';rw[<- cg (κ:=κ) eb]at this;rw[<- cg (κ:=κ) ex,<- cg (κ:=κ) ey];exact LB this
 have last:∀x∈((arrOf st).extract n1 (n1+l)).toList,∀y,((arrOf st).extract k n1)[((arrOf st).extract k n1).size-1]?=some y->κ.kle (kf κ x) (kf κ y):=λx hx y ey=>by
  obtain⟨j,j1,j2,e⟩:_:=rX hx;rw[zA,gA _ 'Z',show k+(n1-k-1)=n1-1 by omega,ea]at ey;cases ey;have:=l2 (j-n1) 'Z';rw[show n1+(j-n1)=j by omega,cg e]at this;exact LB this
 suffices J:∀(m:Array Keyed) g,Gd κ ((arrOf st).extract k n1).toList ((arrOf st).extract n1 (n1+l)).toList m.toList->wpS (model prog w) A E s (jp m) Q (eX (SortSt.mk' (kindOf st) (arrOf st) P (gallopOf st) (failedOf st)) g) by
  split
  ·exact ue (Zh C (a:=(arrOf st).extract k n1) (b:=(arrOf st).extract n1 (n1+l)) hB.kind Rr Rt sA sB (by rw[zA];omega) (by rw[zB];omega) first last J)
  ·exact ue (Zv C (a:=(arrOf st).extract k n1) (b:=(arrOf st).extract n1 (n1+l)) hB.kind Rr Rt sA sB (by rw[zA];omega) (by rw[zB];omega) first last J)
 intro m g gd;rw[fZ]
 nofun
 have lm:m.toList.length=(n1-k)+l:=by
  rw[gd.1.length_eq,xw,NO,NO,zA,zB]
 have eL:=Ke k m.toList 0 (arrOf st) 'Z';rw[Nat.add_zero,lm,show k+(n1-k+l)=n1+l by omega]at eL;refine ue (abc (ue (afK ?_)));have fin:∀xs:Array Keyed,xs.toList=(arrOf st).toList.take k++m.toList++(arrOf st).toList.drop (n1+l)->xs.Perm a0/\∀i j,i<=j->j<a0.size->κ.kle (kA κ xs i) (kA κ xs j):=λxs ex=>by
  have hp:xs.toList.Perm (arrOf st).toList:=by
   rw[ex];have e1:(arrOf st).toList=(arrOf st).toList.take k++(((arrOf st).extract k n1).toList++((arrOf st).extract n1 (n1+l)).toList)++(arrOf st).toList.drop (n1+l):=by
    rw[uX,uX];have t1:(arrOf st).toList.take k++((arrOf st).toList.take n1).drop k=(arrOf st).toList.take n1:=by
     have:=ET k ((arrOf st).toList.take n1);rwa [List.take_take,aga 'Z']at this
    have t2:(arrOf st).toList.take n1++((arrOf st).toList.take (n1+l)).drop n1=(arrOf st).toList.take (n1+l):=by
     have:=ET n1 ((arrOf st).toList.take (n1+l));rwa [List.take_take,aga 'Z']at this
    rw[<- CS,t1,t2,ET]
   exact(SI _ (NH _ gd.1)).trans (by rw[<- e1])
  refine⟨(aev.mpr hp).trans hB.perm,λi j bV hj=>?_⟩;have hs:fJ κ xs.toList:=by
   rw[ex];have mm:∀x∈m.toList,(∃j,k<=j/\j<n1/\(arrOf st)[j]?=some x)\/(∃j,n1<=j/\j<n1+l/\(arrOf st)[j]?=some x):=λx hx=>by
    obtain z|z:=qr.mp (gd.1.mem_iff.mp hx)
    ·exact .inl (rX z)
    ·exact .inr (rX z)
   have mT:∀x∈(arrOf st).toList.take k,∃j,j<k/\(arrOf st)[j]?=some x:=λx hx=>pK hx
   have mD:∀x∈(arrOf st).toList.drop (n1+l),∃j,n1+l<=j/\j<a0.size/\(arrOf st)[j]?=some x:=λx hx=>by
    rw[<- rW]at hx;obtain⟨j,j1,j2,e⟩:_:=rX hx;exact⟨j,j1,'Z',e⟩
   refine dG.mpr ⟨dG.mpr ⟨?_,gd.2,λx hx y hy=>?_⟩,?_,λx hx y hy=>?_⟩
   ·rw[<- uW];exact yz (λa b z1 z2 z3=>dn a b z2 'Z') 'Z'
   ·obtain⟨i,i1,ei⟩:=mT x hx;rw[<- cg (κ:=κ) ei];obtain⟨j,j1,j2,ej⟩|⟨j,j1,j2,ej⟩:_:=mm y hy
    ·rw[<- cg (κ:=κ) ej];exact dn i j 'Z' j2
    ·rw[<- cg (κ:=κ) ej];have:=k2 i i1;rw[<- cg (κ:=κ) eb]at this;exact Co this (up n1 j (br _) j1 'Z')
   ·rw[<- rW];exact yz (λa b z1 z2 z3=>up a b 'Z' z2 'Z') (br _)
   ·obtain⟨j,j1,j2,ej⟩:=mD y hy;rw[<- cg (κ:=κ) ej];have tail:∀i,i<n1->κ.kle (kA κ (arrOf st) i) (kA κ (arrOf st) j):=λi hi=>by
     have:=l3 (j-n1) 'Z' 'Z';rw[<- cg (κ:=κ) ea,show n1+(j-n1)=j by lia]at this;exact Co (dn i (n1-1) 'Z' 'Z') this
    obtain z|z:=qr.mp hx
    ·obtain⟨i,i1,ei⟩:_:=mT x z;rw[<- cg (κ:=κ) ei];exact tail i 'Z'
    ·obtain⟨i,i1,i2,ei⟩|⟨i,i1,i2,ei⟩:=mm x z
     ·rw[<- cg (κ:=κ) ei];exact tail i i2
     ·rw[<- cg (κ:=κ) ei];exact up i j i1 'O' j2
  refine oh hs bV ?_;rw[<- NO,hp.length_eq,NO];omega
 obtain⟨f1,f2⟩:=fin _ eL;have:=zw (M:=model prog w) (A:=A) (E:=E) (s:=s) (a:=true) (Q:=Q) (h (SortSt.mk' (kindOf st) ((m.toList.zipIdx 0).foldl (λa x=>a.setIfInBounds (k+x.2) x.1) (arrOf st)) P g (failedOf st)) ⟨f1,hB.fail,hP,f2⟩);show wpS (model prog w) A E s (pure (failedOf st).isNone) Q _;have e:(failedOf st).isNone=true:=by rw[hB.fail];rfl
 rw[e];exact this
end
theorem ZP {n:Nat}(h2 : 2<=n)(h:n<128):n<=2*minRun' n n 0/\minRun' n n 0<=n:=by
 obtain⟨f,rfl⟩:∃f,n=f+2:=⟨n-2,'O'⟩
 have e:minRun' (f+2) (f+2) 0=if f+2<64 then f+2+0 else if(f+2)/2<64 then (f+2)/2+max 0 ((f+2)%2)else minRun' f ((f+2)/2/2) (max (max 0 ((f+2)%2)) ((f+2)/2%2)):=by
  rw[minRun'_succ,minRun'_succ]
 rw[e];split
 ·lia
 ·rw[uu 'O'];lia
section
theorem Ye (C:jH prog w A E s kd κ)(k0:Kd κ a0.toList){st:SortSt}(hB:SB kd a0 #[] 0 a0 st)(h2 : 2<=a0.size)(zT:a0.size<128)(h:∀ah,(arrOf ah).Perm a0->failedOf ah=none->(∀i j,i<=j->j<a0.size->κ.kle (kA κ (arrOf ah) i) (kA κ (arrOf ah) j))->Q () ah):wpS (model prog w) A E s sortRuns' Q st:=by
 obtain⟨m1,m2⟩:=ZP h2 zT;refine ue (afK ?_);rw[hB.size]
 ac_rfl
 obtain⟨mr,Ru⟩:∃mr,minRun' a0.size a0.size 0=mr:=⟨_,rfl⟩
 rw[Ru]at m1 m2;rw[show(sortPriv% PySem.Builtin.minRun) a0.size a0.size 0=mr from Ru];refine ue (adZ (NJ (I:=λt c ah=>(t=0/\c=(none,0)/\SB kd a0 #[] 0 a0 ah) \/
   (t=1/\∃n1,c=(none,n1)/\1<=n1/\n1<=a0.size/\mr<=n1/\SB kd a0 #[(0,n1,0)] 0 a0 ah/\SS κ (arrOf ah) 0 n1) \/
   (2<=t/\∃n1 pw,c=(none,a0.size)/\1<=n1/\n1<a0.size/\SB kd a0 #[(0,n1,pw),(n1,a0.size-n1,0)] 0 a0 ah/\SS κ (arrOf ah) 0 n1/\SS κ (arrOf ah) n1 (a0.size-n1)))
  (Q:=λc ah=>c.1=none/\((SB kd a0 #[(0,a0.size,0)] 0 a0 ah/\SS κ (arrOf ah) 0 a0.size)\/∃n1 pw,1<=n1/\n1<a0.size/\SB kd a0 #[(0,n1,pw),(n1,a0.size-n1,0)] 0 a0 ah/\SS κ (arrOf ah) 0 n1/\SS κ (arrOf ah) n1 (a0.size-n1))) ?_ ?_ (.inl ⟨rfl,rfl,hB⟩)) ?_)
 ·rintro t c ah _ ht (⟨rfl,rfl,hB⟩|⟨rfl,n1,rfl,b1,b2,b3,hB,s1⟩|⟨t2,n1,pw,rfl,b1,b2,hB,s1,s2⟩)
  ·ac_rfl
   rw[rf (by show ¬0>=a0.size;lia)];refine ue (Nq C k0 hB (by show 1<=a0.size-0;lia) (by show 0+(a0.size-0)<=a0.size;lia) λm aZ nN r1 r2 hs=>?_)
   nofun
   (rw[show m=id m from rfl];extract_lets +onlyGivenNames -merge -underBinder ac5;subst ac5;(try dsimp -zeta only[id]))
   extract_lets +onlyGivenNames -merge -underBinder O6
   obtain⟨jp,fZ⟩:∃z,z=O6:=⟨O6,rfl⟩
   rw[<- fZ]
   suffices J:∀n aZ,SB kd a0 #[] 0 a0 aZ->1<=n->n<=a0.size->mr<=n->SS κ (arrOf aZ) 0 n->wpS (model prog w) A E s (jp () n) _ aZ by
    by_cases bD:m<mr
    ·rw[uu bD];refine ue (afZ (ad3 ⟨rfl,?_⟩))
     ac_rfl
     rw[show min (a0.size-0) mr=mr by lia];refine ue (Nv C k0 nN 'Z' 'Z' hs λfU Hs gQ=>?_);rw[rf 'Q']
     ac_rfl
     exact J _ _ Hs 'O' m2 (br _) gQ
    ·rw[rf bD];exact J _ _ nN r1 'Z' 'Z' hs
   intro n aZ hB r1 r2 r3 hs;rw[fZ]
   nofun
   refine ue (afK ?_)
   skip
   extract_lets +onlyGivenNames -merge -underBinder O7
   obtain⟨wL,kB⟩:∃z,z=O7:=⟨O7,rfl⟩
   rw[<- kB];rw[show(pendingOf aZ).back?=none by rw[hB.pend];rfl]
   nofun
   rw[kB]
   nofun
   refine ue (abc ?_)
   ac_rfl
   refine zw (.inr (.inl ⟨rfl,n,by show(none,0+n)=(none,n);rw[WE],r1,r2,r3,⟨hB.perm,hB.kind,hB.fail,?_,hB.low⟩,hs⟩));show(pendingOf aZ).push _=_;rw[hB.pend];rfl
  ·ac_rfl
   by_cases full:n1>=a0.size
   ·rw[uu (full)];have:n1=a0.size:='O'
    subst this;exact zw ⟨rfl,.inl ⟨hB,s1⟩⟩
   rw[rf (full)];have hB1:SB kd a0 #[(0,n1,0)] n1 (arrOf ah) ah:=⟨hB.perm,hB.kind,hB.fail,hB.pend,λ_ _=>rfl⟩
   refine ue (Nq C k0 hB1 (by show 1<=a0.size-n1;omega) (by show n1+(a0.size-n1)<=a0.size;omega) λm aZ nN r1 r2 hs=>?_)
   nofun
   (rw[show m=id m from rfl];extract_lets +onlyGivenNames -merge -underBinder ac6;subst ac6;(try dsimp -zeta only[id]))
   extract_lets +onlyGivenNames -merge -underBinder O8
   obtain⟨jp,fZ⟩:∃z,z=O8:=⟨O8,rfl⟩
   rw[<- fZ]
   suffices J:∀aZ,SB kd a0 #[(0,n1,0)] n1 (arrOf ah) aZ->SS κ (arrOf aZ) n1 (a0.size-n1)->wpS (model prog w) A E s (jp () (a0.size-n1)) _ aZ by
    by_cases bD:m<mr
    ·rw[uu bD];refine ue (afZ (ad3 ⟨rfl,?_⟩))
     ac_rfl
     rw[show min (a0.size-n1) mr=a0.size-n1 by lia];refine ue (Nv C k0 nN 'Z' 'Z' hs λfU Hs gQ=>?_)
     ac_rfl
     exact J _ Hs gQ
    ·rw[rf bD];have:m=a0.size-n1:='Z'
     subst this;exact J _ nN hs
   intro aZ hB hs;have s1':SS κ (arrOf aZ) 0 n1:=λi j bV hj=>by
    have:=s1 i j bV hj;rwa [pd (hB.low (0+i) 'Z'),pd (hB.low (0+j) 'Z')]
   rw[fZ]
   nofun
   refine ue (afK ?_)
   skip
   extract_lets +onlyGivenNames -merge -underBinder Nx
   obtain⟨wL,kB⟩:∃z,z=Nx:=⟨Nx,rfl⟩
   rw[<- kB];rw[show(pendingOf aZ).back?=some (0,n1,0) by rw[hB.pend];rfl]
   nofun
   ac_rfl
   generalize (sortPriv% PySem.Builtin.power) a0.size (2*0+n1) (2*0+n1+n1+(a0.size-n1)) a0.size=pw;refine ue (adZ (NJ (I:=λt c ah=>ah=aZ/\c=(none,())) ?_ (λc ah z=>z) ⟨rfl,rfl⟩) ?_)
   ·rintro t c fU _ _ ⟨rfl,rfl⟩;refine ue (afK ?_);show wpS (model prog w) A E s (match if(pendingOf fU).size>1 then (pendingOf fU)[(pendingOf fU).size-2]? else none with|_=>_) _ fU;rw[rf (by rw[hB.pend];show ¬1>1;omega)];exact zw ⟨rfl,rfl⟩
   ·rintro c fU ⟨rfl,rfl⟩
    ac_rfl
    nofun
    refine ue (abc ?_);rw[kB]
    nofun
    refine ue (abc ?_)
    ac_rfl
    refine zw (.inr (.inr ⟨br _,n1,pw,by show(none,n1+(a0.size-n1))=(none,a0.size);rw[show n1+(a0.size-n1)=a0.size by omega],b1,'Z',⟨hB.perm,hB.kind,hB.fail,?_,λi hi=>'Z'⟩,s1',hs⟩));show((pendingOf fU).modify ((pendingOf fU).size-1) _).push _=_;rw[hB.pend];rfl
  ·ac_rfl
   rw[uu (by show a0.size>=a0.size;exact br _)];exact zw ⟨rfl,.inr ⟨n1,pw,b1,b2,hB,s1,s2⟩⟩
 ·rintro c ah (⟨z,_⟩|⟨z,_⟩|⟨t2,n1,pw,rfl,b1,b2,hB,s1,s2⟩)
  ·omega
  ·omega
  ·exact⟨rfl,.inr ⟨n1,pw,b1,b2,hB,s1,s2⟩⟩
 ·rintro c ah ⟨e,Hq⟩;obtain⟨c1,c2⟩:=c;subst e
  ac_rfl
  nofun
  refine ue (adZ (NJ (I:=λt c aZ=>c=(none,())/\((t=0/\aZ=ah)\/(Gg kd κ a0 aZ)))
   (Q:=λc aZ=>c=(none,())/\Gg kd κ a0 aZ) ?_ ?_ ⟨rfl,.inl ⟨rfl,rfl⟩⟩) ?_)
  ·rintro t c aZ _ ht ⟨rfl,z⟩
   nofun
   refine ue (afK ?_);obtain⟨rfl,rfl⟩|f:=z
   ·obtain⟨hB,hs⟩|⟨n1,pw,b1,b2,hB,s1,s2⟩:_:=Hq
    ·have Ht:(pendingOf aZ).size=1:=by rw[hB.pend];rfl
     ac_rfl
     rw[uu (by show(pendingOf aZ).size<=1;lia)];exact zw ⟨rfl,⟨hB.perm,hB.fail,by rw[hB.pend];rfl,λi j bV hj=>by have:=hs i j bV hj;rwa [WE,WE]at this⟩⟩
    ·have Aw:(pendingOf aZ).size=2:=by rw[hB.pend];rfl
     ac_rfl
     rw[rf (by show ¬(pendingOf aZ).size<=1;lia)]
     ac_rfl
     refine ue ?_;rw[rf (c:=(pendingOf aZ).size-2>0) 'Z',rf (by rw[Option.any_none];decide),Aw];refine VI C k0 hB b1 b2 s1 s2 λfU f=>?_
     exact zw ⟨rfl,.inr f⟩
   ·ac_rfl
    rw[uu (by show(pendingOf aZ).size<=1;rw[f.one];decide)];exact zw ⟨rfl,f⟩
  ·rintro c aZ ⟨rfl,z⟩;obtain⟨z,_⟩|f:=z
   ·omega
   ·exact⟨rfl,f⟩
  ·rintro c aZ ⟨rfl,f⟩
   ac_rfl
   nofun
   exact zw (h aZ f.perm f.fail f.wI)
end
def lexLt:LI->LI->Bool
 |[],[] => false
 |[],_::_=>true
 |_::_,[] => false
 |x::xs,y::ys=>if x=y then lexLt xs ys else decide (x<y)
theorem Di:∀a,lexLt a a=false
 |[] => rfl
 |x::xs=>by unfold lexLt;rw[uu rfl];exact Di xs
theorem Ed:∀a b c,lexLt a b=true->lexLt b c=true->lexLt a c=true
 |[],[],_=>λh _=>by cases h
 |[],_::_,[] => λ_ h=>by cases h
 |[],_::_,_::_=>λ_ _=>rfl
 |_::_,[],_=>λh _=>by cases h
 |_::_,_::_,[] => λ_ h=>by cases h
 |x::xs,y::ys,z::zs=>λh1 h2=>by
  unfold lexLt at h1 h2 ⊢;by_cases e1:x=y
  ·subst e1;rw[uu rfl]at h1;by_cases e2:x=z
   ·subst e2;rw[uu rfl]at h2 ⊢;exact Ed xs ys zs h1 h2
   ·simp_all
  ·grind
theorem Ee:∀a b c,lexLt a c=true->lexLt a b=true\/lexLt b c=true
 |[],[],c,h=>.inr h
 |[],_::_,_,_=>.inl rfl
 |_::_,_,[],h=>by cases h
 |_::_,[],_::_,_=>.inr rfl
 |x::xs,y::ys,z::zs,h=>by
  unfold lexLt at h ⊢;by_cases e1:x=y
  ·subst e1;rw[uu rfl];by_cases e2:x=z
   ·subst e2;rw[uu rfl]at h ⊢;exact Ee xs ys zs h
   ·simp_all
  ·lia
theorem Dj:∀a b,lexLt a b=false->lexLt b a=false->a=b
 |[],[] => λ_ _=>rfl
 |[],_::_=>λh _=>by cases h
 |_::_,[] => λ_ h=>by cases h
 |x::xs,y::ys=>λh1 h2=>by
  unfold lexLt at h1 h2;by_cases e1:x=y
  ·subst e1;rw[uu rfl]at h1 h2;rw[Dj xs ys h1 h2]
  ·lia
def intsOf:List vn->Option (LI)
 |[] => some []
 | .int n _::r=>(intsOf r).map (n :: ·)
 |_::_=>none
def eI (h:Heap):vn->Option (LI)
 | .ref t=>match h.get? t with
  |some ⟨.type "tuple",_,.seq vs _,_⟩=>intsOf vs.toList
  |_=>none
 |_=>none
def kW (h:Heap):KeyKind:={α:=LI,blt:=lexLt,irrefl:=Di,trans:=Ed,negTrans:=Ee,total:=Dj,keyOf:=eI h,dflt:=[]}
theorem ints_of (h:IntsAre vs ns):intsOf vs=some ns:=by
 induction h with
 |nil=>rfl
 |cons n t _ ih=>show(intsOf _).map _=_;rw[ih];rfl
theorem Lx:∀{vs:List vn} {ns:LI},intsOf vs=some ns->IntsAre vs ns
 |[],_,h=>by cases h;exact .nil
 | .int n t::r,_,h=>by
  have h':(intsOf r).map (n :: ·)=some _:=h;cases e:intsOf r with
  |none=>rw[e]at h';cases h'
  |some ms=>rw[e]at h';cases h';exact .cons n t (Lx e)
 | .none::_,_,h=>by cases h
 | .ellipsis::_,_,h=>by cases h
 | .notImplemented::_,_,h=>by cases h
 | .bool _::_,_,h=>by cases h
 | .float _ _::_,_,h=>by cases h
 | .str _ _::_,_,h=>by cases h
 | .bytes _ _::_,_,h=>by cases h
 | .type _::_,_,h=>by cases h
 | .builtin _::_,_,h=>by cases h
 | .ref _::_,_,h=>by cases h
theorem Ny (p:IsTup h t ws.toArray)(q:IntsAre ws ns):eI h (.ref t)=some ns:=by
 obtain⟨⟨c,d,dt,sl⟩,ho,hc,n,hd⟩:_:=p;subst hc hd;show(match h.get? t with|some ⟨.type "tuple",_,.seq vs _,_⟩=>intsOf vs.toList|_=>none)=_;rw[ho];exact ints_of q
theorem yS (e:eI h v=some ns):∃t ws,v=.ref t/\IsTup h t ws.toArray/\IntsAre ws ns:=by
 unfold eI at e;split at e
 next t=>
  split at e
  next o d vs n sl ho=>exact⟨t,vs.toList,rfl,⟨_,ho,rfl,n,'X'⟩,Lx e⟩
  next=>cases e
 next=>cases e
section
theorem Ce (p:IsTup s.heap t ws)(h:Q ws s):wpAny (model prog w) A (Builtin.List.listItems (.ref t)) Q E s:=by
 obtain⟨o,ho,hc,n,hd⟩:_:=p;exact listItems_at ho hd h
theorem ZQ (h:Q (decide (a<b)) s):wpAny (model prog w) A (oneLt' false (.int a t) (.int b u)) Q E s:=by
 rw[oneLt'_eq];refine ar ?_;exact wpAny_lt_int (YO h)
theorem ZR (h:Q (decide (a<b)) s):wpAny (model prog w) A (oneLt' c (.int a t) (.int b u)) Q E s:=by
 cases c with
 |true=>exact oneLt_int h
 |false=>exact ZQ h
theorem ZS {g:((vn×vn)×Nat)->(Option Bool×Unit)->Sem (ForInStep (Option Bool×Unit))}(hg:∀(m n:Int) (t t':Tok) (i:Nat) (Q:ForInStep (Option Bool×Unit)->adX->Prop),(m≠n->Q (.done (some (decide (m<n)),())) s)->(m=n->Q (.yield (none,())) s)->wpAny (model prog w) A (g ((.int m t,.int n t'),i) (none,())) Q E s):
  ∀{us vs:List vn} {ms ns:LI},IntsAre us ms->IntsAre vs ns->∀(k:Nat) (Q:Option Bool×Unit->adX->Prop),(lexLt ms ns=decide (us.length<vs.length)->Q (none,()) s)->Q (some (lexLt ms ns),()) s ->
   wpAny (model prog w) A (forIn ((us.zip vs).zipIdx k) ((none,()):Option Bool×Unit) g) Q E s:=by
 intro us vs ms ns hu
 induction hu generalizing vs ns with
 |nil=>
  intro hv k Q h _;cases hv with
  |nil=>exact wpAny_pure (h rfl)
  |cons n t hr=>exact wpAny_pure (h (by rw[EO 'Y'];rfl))
 |cons m t hu ih=>
  intro hv k Q h h2;cases hv with
  |nil=>exact wpAny_pure (h (by rw[LF 'Y'];rfl))
  |cons n t' hv=>
   rw[List.zip_cons_cons,List.zipIdx_cons,List.forIn_cons];unfold lexLt at h h2;refine ar (hg m n t t' k _ (λe=>?_) (λe=>?_))
   ·rw[rf e]at h2;exact wpAny_pure h2
   ·rw[uu e]at h h2;exact ih hv (k+1) Q (λz=>h (by rw[z];simp)) h2
theorem Yg:jH prog w A E s (tuples' true) (kW s.heap) where
 lt st x y Q hk k1 k2 h:=by
  obtain⟨ms,e1⟩:=aeG.mp k1;obtain⟨ns,e2⟩:=aeG.mp k2;have f1:kf (kW s.heap) x=ms:=by unfold kf;rw[e1];rfl
  have f2:kf (kW s.heap) y=ns:=by unfold kf;rw[e2];rfl
  rw[f1,f2]at h;obtain⟨t,us,ex,px,ix⟩:_:=yS e1;obtain⟨t',vs,ey,py,iy⟩:_:=yS e2;rw[lt'_eq];refine ue (afK ?_);rw[hk,ex,ey];refine ue (afZ (afl ?_));refine ar (Ce px (ar (Ce py ?_)));refine ar (ZS (λm n t t' i Q q1 q2=>?_) ix iy 0 _ (λe=>?_) ?_)
  ·refine ar (wpAny_eqBool_int ?_);by_cases e:m=n
   ·rw[show(m==n)=true by simpa using e];exact wpAny_pure (q2 e)
   ·rw[show(m==n)=false by simpa using e];exact ar (ZR (wpAny_pure (q1 e)))
  ·refine wpAny_pure ⟨rfl,zw ?_⟩;rw[Cn,Cn,<- e];exact h
  ·exact wpAny_pure ⟨rfl,zw h⟩
theorem Nz:∀{vs:List vn},(∀v∈vs,∃n ns,eI s.heap v=some (n::ns))->∀Q,(∀fs:List (Int×Tok),fs.length=vs.length->Q (fs.map λp=>some (.int p.1 p.2)) s) ->
  wpAny (model prog w) A (vs.mapM firstOfTuple') Q E s
 |[] => λ_ Q h=>by exact wpAny_pure (h [] rfl)
 |v::vs=>λhv Q h=>by
  obtain⟨n,ns,e⟩:=hv v (.head _);obtain⟨t,ws,rfl,pt,it⟩:=yS e;cases it with
  |cons _ tk it=>
   rw[List.mapM_cons];refine ar ?_;obtain⟨o,ho,hc,m,hd⟩:_:=id pt;refine ar (wpAny_typeOf ⟨o,ho,hc⟩ ?_);refine ar (Ce pt (wpAny_pure ?_));refine ar (Nz (λv lY=>hv v (.tail _ lY)) _ λfs hf=>wpAny_pure ?_);exact h ((n,tk)::fs) 'J'
theorem JI:∀(fs:List (Int×Tok)),(fs.map λp=>Value.int p.1 p.2).mapM typeOf=pure (fs.map λ_=>Value.type "int")
 |[] => by simp
 |p::fs=>by
  rw[JJ,List.mapM_cons,JI fs]
  rfl
theorem Xc (hv:∀v∈vs,∃n ns,eI s.heap v=some (n::ns))(ne:vs≠[])(h:Q (tuples' true) s):wpAny (model prog w) A (keyKind' vs.toArray) Q E s:=by
 rw[keyKind'_eq,List.mapM_toArray];refine ar ?_;refine ar (Nz hv _ λfs hf=>wpAny_pure ?_);rw[uu 'Y'];refine ar (ad3 ?_);have e1:((fs.map λp=>some (Value.int p.1 p.2)).toArray.filterMap id)=(fs.map λp=>Value.int p.1 p.2).toArray:=by
  simp[List.filterMap_map]
 rw[e1,oneTypeOnly'_eq,List.mapM_toArray,JI];simp only[map_pure,pure_bind];have h0:(fs.map λ_=>Value.type "int").toArray[0]?=some (Value.type "int"):=by
  cases fs with
  |nil=>
   cases vs with
   |nil=>exact absurd rfl ne
   |cons _ _=>cases hf
  |cons p fs=>simp
 have fS:((fs.map λ_=>Value.type "int").toArray.all λx=>x==Value.type "int")=true:=by
  simp only[List.all_toArray,List.all_map,aee];intro _ _
  rfl
 rw[h0];simp[fS];exact wpAny_pure h
end
def qc (h:Heap)(v:vn):LI:=(eI h v).getD []
def qd (h:Heap)(l:List vn):Prop:=l.Pairwise λx y=>lexLt (qc h y) (qc h x)=false
section
theorem CH (e:eI h v=some ns)(k:∀t o,v=.ref t->h.get? t=some o->o.cls=.type "tuple"->h'.get? t=some o):eI h' v=some ns:=by
 obtain⟨t,ws,rfl,⟨o,ho,hc,n,hd⟩,it⟩:_:=yS e;exact Ny ⟨o,k t o rfl ho hc,hc,n,hd⟩ it
theorem mem_zip_self {α:Type}:∀{l:List α} {p : α×α},p∈l.zip l->p.1=p.2/\p.1∈l
 |x::l,p,h=>by
  obtain rfl|z:=ff.mp h
  ·simp_all
  ·have:=mem_zip_self z
   grind
theorem Ly {α:Type}:∀l:List α,(l.zip l).map Prod.snd=l
 |[] => rfl
 |x::l=>by rw[List.zip_cons_cons,JJ,Ly l]
theorem JK (hp:xs.Perm (pairsOf vs))(hs:∀i j,i<=j->j<(pairsOf vs).size->(kW h).kle (kA (kW h) xs i) (kA (kW h) xs j)):
  (xs.map (·.2)).toList.Perm vs/\qd h (xs.map (·.2)).toList:=by
 have hl:xs.toList.Perm (vs.zip vs):=by
  have:=aev.mp hp;unfold pairsOf at this
  simp_all
 refine⟨?_,?_⟩
 ·rw[Array.toList_map];have:=hl.map Prod.snd;rwa [Ly]at this
 ·unfold qd;rw[Array.toList_map,OF,OP];intro i j hi hj bV;have oP:j<(pairsOf vs).size:=by rw[<- hp.size_eq];exact hj
  have:=hs i j 'O' oP;have gt:∀c (hc),kA (kW h) xs c=qc h (xs.toList[c]).2:=λc hc=>by
   have e:xs[c]?=some (xs.toList[c]):='J'
   rw[cg e];have:=(mem_zip_self (hl.mem_iff.mp (aeg hc))).1;rw[<- this]
   rfl
  rw[gt i hi,gt j hj]at this;exact this
theorem IY (ho:s.heap.get? a=some (seqObj "list" vs.toArray n))(hv:∀v∈vs,∃n ns,eI s.heap v=some (n::ns))(zT:vs.length<128)(h:∀out:Array vn,out.toList.Perm vs->qd s.heap out.toList->P (.done (.ret .none)) {s with heap:=sortedHeap s.heap a vs out}):wpAny (model prog w) A (Builtin.«list.sort» ⟨[.ref a],[]⟩) P E s:=by
 rw[list_sort_plain];have ha:a<s.heap.objs.size:=nt ho;refine ar (listItems_at ho rfl (ar (listUpdate_at ho rfl ?_)));obtain⟨e1,wM⟩:∃e1,(s.heap.update a (Obj.mapSeq λ_=>#[])).get? a=some (seqObj "list" #[] e1):=⟨_,get?_update_seq ho (λ_=>#[])⟩
 refine ar (seqEpoch_at wM rfl (ar (wpAny_newTuple (ar (wpAny_newList (Po ?_))))));obtain⟨hB,eB⟩:∃hB,hB=((s.heap.update a (Obj.mapSeq λ_=>#[])).push (seqObj "tuple" vs.toArray 0)).push (seqObj "list" #[] 0):=⟨_,rfl⟩
 have qT:hB.get? a=some (seqObj "list" #[] e1):=by
  rw[eB,YU _ _ _ (by rw[size_push',afb];exact AN (aer ha)),YU _ _ _ (by rw[afb];exact AN ha)];exact wM
 have keep:∀t o,s.heap.get? t=some o->t≠a->hB.get? t=some o:=λt o e ne=>by
  have lt:=nt e;rw[eB,YU _ _ _ (by rw[size_push',afb];exact AN (aer lt)),YU _ _ _ (by rw[afb];exact AN lt),(Pc ..).2 t ne];exact e
 have keys:∀v ns,eI s.heap v=some ns->eI hB v=some ns:=λv ns e=>CH e λt o _ ht hc=>keep t o ht λz=>by
  rw[z,ho]at ht;cases ht;exact absurd (Value.type.inj hc) 'Q'
 have fin:∀out:Array vn,out.toList.Perm vs->qd hB out.toList->P (.done (.ret .none)) {s with heap:=sortedHeap s.heap a vs out}:=λout hp hs=>by
  refine h out hp (hs.imp_of_mem λ{x y} hx hy z=>?_);obtain⟨n1,ns1,q1⟩:=hv x (hp.mem_iff.mp hx);obtain⟨n2,ns2,q2⟩:=hv y (hp.mem_iff.mp hy);unfold qc at z ⊢;rw[keys _ _ q1,keys _ _ q2]at z;rw[q1,q2];exact z
 have last:∀out,out.size<=1000->sortedHeap s.heap a vs out=hB.update a (Obj.mapSeq λ_=>out):=λout _=>by rw[eB];rfl
 rw[<- eB];have cT:vs.toArray.size=vs.length:='Y'
 have line:=afW;by_cases h2:vs.toArray.size<2
 ·rw[uu h2,uu h2];refine ar (wpAny_pure ?_);refine ar (wpAny_pure ?_);have pp:(pairsOf vs).Perm (pairsOf vs):=Array.Perm.refl _;obtain⟨f1,f2⟩:=JK pp λi j bV hj=>by
   rw[afD]at hj;have:i=j:='O'
   subst this;exact NL _
  have sz:((pairsOf vs).map (·.2)).size=vs.length:=by rw[Array.size_map,afD]
  refine ar (seqEpoch_at (s:={s with heap:=hB}) qT rfl ?_);refine ar (listUpdate_at (s:={s with heap:=hB}) qT rfl ?_ (hsz2:=by show((pairsOf vs).map (·.2)).size<=_;lia));simp only[afR,afA,if_false];have:=fin _ f1 f2;rw[last _ 'O']at this;exact wpAny_pure this
 ·rw[rf h2,rf h2];refine ar (Xc (λv lY=>?_) (λz=>by rw[z]at h2;simp at h2) ?_)
  ·obtain⟨n,ns,e⟩:_:=hv v lY;exact⟨n,ns,keys _ _ e⟩
  have k0:Kd (kW hB) (pairsOf vs).toList:=λx hx=>by
   unfold pairsOf at hx;rw[Array.toList_zip]at hx;obtain⟨n,ns,e⟩:_:=hv x.1 (mem_zip_self hx).2;show(eI hB x.1).isSome=true;rw[keys _ _ e];rfl
  have run:=Ye (prog:=prog) (w:=w) (A:=A) (E:=E) (s:={s with heap:=hB}) Yg k0 (st:=SortSt.mk' (tuples' true) (pairsOf vs) #[] 7 none) ⟨Array.Perm.refl _,rfl,rfl,rfl,λ_ z=>absurd z (VT _)⟩
   (Q:=λ_ ah=>(arrOf ah).Perm (pairsOf vs)/\failedOf ah=none/\∀i j,i<=j->j<(pairsOf vs).size->(kW hB).kle (kA (kW hB) (arrOf ah) i) (kA (kW hB) (arrOf ah) j)) (by rw[afD];lia) (by rw[afD];lia) λah p1 p2 p3=>⟨p1,p2,p3⟩
  refine ar (afn run ?_ λ_ _ e=>e);rintro⟨⟨⟩,ah⟩ s' ⟨rfl,hp,hf,hs⟩;obtain⟨f1,f2⟩:=JK hp hs;have sz:((arrOf ah).map (·.2)).size=vs.length:=by rw[Array.size_map,hp.size_eq,afD]
  refine ar (seqEpoch_at qT rfl ?_);refine ar (listUpdate_at qT rfl ?_);rw[hf];simp[afR];have:=fin _ f1 f2;rw[last _ (by show((arrOf ah).map (·.2)).size<=1000;lia)]at this;exact wpAny_pure this
theorem VJ (hl:s.heap.IsList l vs.toArray)(hv:∀v∈vs,∃n ns,eI s.heap v=some (n::ns))(zT:vs.length<128)(h:∀out,out.toList.Perm vs->qd s.heap out.toList->Q (.ref (s.heap.objs.size+1)) {s with heap:=sortedAll s.heap vs out}):wpAny (model prog w) A (call (.builtin "sorted") [.ref l]) Q E s:=by
 refine Calls.call_function_entry kind_sorted plain_sorted entry_sorted (args_sorted1 _) ?_;refine ar (wpAny_pure (ar (collect_list hl (ar (wpAny_newList ?_)))));have z1:((s.heap.push (seqObj "list" #[] 0)).update s.heap.objs.size (Obj.mapSeq (·++vs.toArray))).objs.size=s.heap.objs.size+1:=by
  simp_all
 obtain⟨hC,eC⟩:∃hC,hC=((s.heap.push (seqObj "list" #[] 0)).update s.heap.objs.size (Obj.mapSeq (·++vs.toArray))).push (seqObj "list" vs.toArray 0):=⟨_,rfl⟩
 have oI:hC.get? (s.heap.objs.size+1)=some (seqObj "list" vs.toArray 0):=by
  rw[eC,<- z1];exact BS _ rfl
 have keep:∀t o,s.heap.get? t=some o->hC.get? t=some o:=λt o e=>by
  have lt:=nt e;rw[eC,YU _ _ _ (by grind),(Pc ..).2 t (AN lt),YU _ _ _ (AN lt)];exact e
 have keys:∀v ns,eI s.heap v=some ns->eI hC v=some ns:=λv ns e=>CH e λt o _ ht _=>keep t o ht
 rw[z1,<- eC];refine ar (Po (Sm slot_list_sort ⟨_,oI,rfl⟩ entry_list_sort (IY oI (λv lY=>?_) zT λout p1 p2=>⟨_,rfl,?_⟩) (args_list_sort _)))
 ·grind
 ·refine wpAny_pure ⟨_,rfl,?_⟩;have:=h out p1 (p2.imp_of_mem λ{x y} hx hy z=>?_)
  ·unfold sortedAll at this
   simp_all
  ·obtain⟨n1,ns1,q1⟩:=hv x (p1.mem_iff.mp hx);obtain⟨n2,ns2,q2⟩:=hv y (p1.mem_iff.mp hy);unfold qc at z ⊢
   grind
end
end So
namespace L2
open PySem PySem.Spec PyProof.Rows
def addrOf:vn->adV
 | .ref a=>a
 |_=>0
theorem Cg (h:l.Perm (ks.map Value.ref)):∃as:List adV,as.Perm ks/\l=as.map Value.ref:=by
 refine⟨l.map addrOf,?_,?_⟩
 ·have:=h.map addrOf;rw[i4]at this;rwa [show ks.map (addrOf∘Value.ref)=ks from(List.map_congr_left λ_ _=>rfl).trans (aeX ks)]at this
 ·rw[i4];refine((List.map_congr_left λv hv=>?_).trans (aeX l)).symm;obtain⟨a,_,rfl⟩:=i8.mp (h.mem_iff.mp hv)
  rfl
theorem Ci:∀as:List adV,Vals (as.map V.ref) (as.map Value.ref)
 |[] => .nil
 |a::as=>.cons rfl (Ci as)
theorem Kf {K:Frag}:∀{ns:LI} {vs:List V} {fq:List adV},aV K G H (ns.map λn=>Tr.fz (di n)) vs fq->vs=ns.map V.int/\fq=[]
 |[],vs,fq,h=>h
 |n::ns,vs,fq,h=>by
  obtain⟨v,r,f1,f2,rfl,rfl,⟨rfl,h1⟩,h2⟩:=h;obtain⟨rfl,rfl⟩:=Kf h2;rw[aO h1]
  simp_all
theorem Xd {K:Frag}{G H:Hp}(l:LI):aV K G H (l.map λn=>Tr.fz (di n)) (l.map V.int) []:=by
 have:=(j9 (K:=K) (G:=G) (ns:=l)).jD (H:=H);rw[mQ]at this;exact this
end L2
namespace Ts
open PySem PySem.SetTable
def qU (m:Nat)(p:Probe):Probe:=if p.more>0 then {p with j:=p.j+1,more:=p.more-1} else
 {p with j:=(leap m p.i p.perturb).1,more:=runEnd m (leap m p.i p.perturb).1-(leap m p.i p.perturb).1,i:=(leap m p.i p.perturb).1,perturb:=(leap m p.i p.perturb).2}
def gf (m i pt:Nat):Probe:={j:=i,more:=runEnd m i-i,i:=i,perturb:=pt,dummy:=none}
def p0 (m:Nat)(h:Int):Probe:=gf m (bits h%(m+1)) (bits h)
def go (m:Nat):Nat->Probe->Probe
 |0,p=>p
 |n+1,p=>go m n (qU m p)
theorem uY (m:Nat):∀a b p,go m (a+b) p=go m b (go m a p)
 |0=>λb p=>by rw[WE];rfl
 |a+1=>λb p=>by rw[afE];exact uY m a b _
theorem yT (m i pt:Nat):∀k r j,k<=r->go m k ⟨j,r,i,pt,none⟩=⟨j+k,r-k,i,pt,none⟩
 |0=>λr j _=>rfl
 |k+1=>λr j h=>by
  show go m k (qU m _)=_;have e:qU m ⟨j,r,i,pt,none⟩=⟨j+1,r-1,i,pt,none⟩:=by unfold qU;rw[uu (show r>0 by lia)]
  rw[e,yT m i pt k (r-1) (j+1) 'O',show j+1+k=j+(k+1) by lia,show r-1-k=r-(k+1) by lia]
theorem Qn (m i:Nat):runEnd m i-i<=9:=by unfold runEnd;split<;>lia
theorem NA {m i:Nat}(h:i<=m):i<=runEnd m i/\runEnd m i<=m:=by unfold runEnd;split<;>lia
theorem Dk (m i pt:Nat):go m (runEnd m i-i+1) (gf m i pt)=gf m (leap m i pt).1 (leap m i pt).2:=by
 rw[uY];unfold gf;rw[yT m i pt _ _ _ (br _),aeH]
 rfl
def lp (m:Nat):Nat->Nat×Nat->Nat×Nat
 |0,s=>s
 |n+1,s=>lp m n (leap m s.1 s.2)
theorem O9 (m:Nat):∀L i pt,∃n,n<=10*L/\go m n (gf m i pt)=gf m (lp m L (i,pt)).1 (lp m L (i,pt)).2
 |0=>λi pt=>⟨0,'O',rfl⟩
 |L+1=>λi pt=>by
  obtain⟨n,h1,h2⟩:_:=O9 m L (leap m i pt).1 (leap m i pt).2;have:=Qn m i;exact⟨runEnd m i-i+1+n,'O',by rw[uY,Dk,h2];rfl⟩
theorem NB (m:Nat):∀a b s,lp m (a+b) s=lp m b (lp m a s)
 |0=>λb s=>by rw[WE];rfl
 |a+1=>λb s=>by rw[afE];exact NB m a b _
theorem Pb (m:Nat):∀L s,(lp m L s).2=s.2/32^L
 |0,s=>by show s.2=s.2/32^0;rw[Nat.pow_zero,Nat.div_one]
 |L+1,s=>by
  show(lp m L _).2=_;rw[Pb m L,Nat.pow_succ,Nat.mul_comm,<- Nat.div_div_eq_div_mul]
  rfl
theorem Pg (m:Nat):∀L s,s.1<=m->(lp m L s).1<=m
 |0=>λs h=>h
 |L+1=>λs h=>Pg m L _ (Zl (aeW _ (aem m)))
def it (m:Nat):Nat->Nat->Nat
 |0,i=>i
 |k+1,i=>it m k ((i*5+1)%(m+1))
theorem yU (m:Nat):∀a b i,it m (a+b) i=it m b (it m a i)
 |0,b,i=>by rw[WE];rfl
 |a+1,b,i=>by rw[afE];exact yU m a b _
theorem Lz (m:Nat):∀k i,lp m k (i,0)=(it m k i,0)
 |0,i=>rfl
 |k+1,i=>by
  show lp m k ((i*5+1+0/32)%(m+1),0/32)=_;exact Lz m k _
def Good (m:Nat):Prop:=m=7\/m=31\/m=127
theorem orb (hm:Good m):it m (m+1) 0=0/\∀j,j<=m->∃a,a<=m/\it m a 0=j:=by
 have key:∀m,it m (m+1) 0=0->((List.range (m+1)).all λj=>((List.range (m+1)).map λa=>it m a 0).contains j)=true->it m (m+1) 0=0/\∀j,j<=m->∃a,a<=m/\it m a 0=j:=λm h1 h2=>⟨h1,λj hj=>by
  have:=aee.mp h2 j (l9.mpr 'O')
  grind⟩
 obtain rfl|rfl|rfl:=hm<;>exact key _ 'W' 'W'
theorem cover (hm:Good m)(hp:pt<2^64)(hi:i<=m)(hj:j<=m):∃L,L<=m+13/\(lp m L (i,pt)).1=j:=by
 obtain⟨o1,o2⟩:=orb hm;have z:(lp m 13 (i,pt)).2=0:=by
  rw[Pb];exact Nat.div_eq_of_lt (zd hp 'Q')
 have l:=Pg m 13 (i,pt) hi;generalize hs:lp m 13 (i,pt)=s at z l;obtain⟨i',pt'⟩:=s;subst z;obtain⟨a,ha,ea⟩:=o2 i' l;obtain⟨b,hb,eb⟩:_:=o2 j hj;have:∃k,k<=m/\it m k i'=j:=by
  obtain h|h:=Nat.le_total a b
  ·exact⟨b-a,'O',by rw[<- ea,<- yU,show a+(b-a)=b by lia,eb]⟩
  ·obtain h|h:=Nat.eq_or_lt_of_le h
   ·subst h;exact⟨0,'O',by show i'=j;rw[<- ea,eb]⟩
   ·exact⟨m+1-a+b,'O',by rw[<- ea,<- yU,show a+(m+1-a+b)=(m+1)+b by lia,yU,o1,eb]⟩
 obtain⟨k,hk,e⟩:_:=this;exact⟨13+k,'O',by rw[NB,hs,Lz,e]⟩
theorem Hu:∀n (ns:List Nat),(∀j,j<n->j∈ns)->n<=ns.length
 |0=>λ_ _=>AM _
 |n+1=>λns h=>by
  have:=Hu n (ns.erase n) λj hj=>(List.mem_erase_of_ne 'O').mpr (h j 'O')
  grind
theorem least {p:Nat->Prop}:∀{n:Nat},p n->∃k,k<=n/\p k/\∀i,i<k->¬p i:=by
 intro n
 induction n using Nat.strongRecOn with
 |_ n ih=>
  intro hn;by_cases h:∃i,i<n/\p i
  ·obtain⟨i,hi,pi⟩:_:=h;obtain⟨k,h1,h2,h3⟩:_:=ih i hi pi;exact⟨k,'O',h2,h3⟩
  ·exact⟨n,br _,hn,λi hi pi=>h ⟨i,hi,pi⟩⟩
def mh (m:Nat)(ns:List Nat)(h:Int)(j:Nat):Prop:=∃n,n<10*turns m/\(go m n (p0 m h)).j=j/\∀k,k<n->(go m k (p0 m h)).j∈ns
theorem mh.mono (r:mh m ns h j)(s:∀x∈ns,x∈ns'):mh m ns' h j:=
 by obtain⟨n,a,b,c⟩:=r;exact⟨n,a,b,λk hk=>s _ (c k hk)⟩
theorem LA (h:Int):bits h<2^64:=by
 unfold bits;lia
theorem Xe (hm:Good m)(h:Int)(hl:ns.length<=m):∃j,j∉ns/\j<=m/\mh m ns h j:=by
 obtain⟨j0,h0,h1⟩:∃j,j<=m/\j∉ns:=by
  apply ES;intro z;have:=Hu (m+1) ns λj hj=>ES λq=>z ⟨j,'O',q⟩
  lia
 obtain⟨L,hL,eL⟩:_:=cover (i:=bits h%(m+1)) hm (LA h) (Zl (aeW _ (aem m))) h0;obtain⟨n,hn,en⟩:_:=O9 m L (bits h%(m+1)) (bits h);have hpn:(go m n (p0 m h)).j∉ns:=by
  show(go m n (gf m _ _)).j∉ns;rw[en];show(lp m L _).1∉ns
  simp_all
 obtain⟨k,k1,k2,k3⟩:_:=least (p:=λn=>(go m n (p0 m h)).j∉ns) hpn;refine⟨(go m k (p0 m h)).j,k2,?_,k,?_,rfl,λi hi=>ES λq=>k3 i hi q⟩
 ·have key:∀n i pt,i<=m->(go m n (gf m i pt)).j<=m:=by
   intro n
   induction n using Nat.strongRecOn with
   |_ n ih=>
    intro i pt hi;have:=NA hi;obtain h|h:=EM (runEnd m i-i) n
    ·rw[show n=runEnd m i-i+1+(n-(runEnd m i-i+1)) by lia,uY,Dk];exact ih _ 'O' _ _ (Zl (aeW _ (aem m)))
    ·grind [gf,yT]
  exact key k _ _ (Zl (aeW _ (aem m)))
 ·show k<10*(m+15);lia
theorem Cj {t:SetTable}{ns:List Nat}(hp:t.place=ns.toArray)(up:ns.Pairwise (· < ·))(hi:ns[i]?=some j):t.slot j=.live i:=by
 have hl:=(gz.mp hi).1;have ej:=(gz.mp hi).2;have hb:below t.place j=i:=by
  rw[hp];refine L2.Ca (by grind) (λq h1 h2=>?_) λq h1 h2=>?_
  ·rw[L2.getD_list,ir,ab h2];have:=OP.mp up q i h2 hl h1
   simp_all
  ·rw[L2.getD_list,ir,ab h2];show ¬ns[q]<j;obtain h|h:=Nat.eq_or_lt_of_le h1
   ·simp_all
   ·have:=OP.mp up i q hl h2 h;lia
 unfold slot
 simp_all
theorem We {t:SetTable}{ns:List Nat}(hp:t.place=ns.toArray)(hd:t.dummies=#[])(hj:j∉ns):t.slot j=.empty:=by
 unfold slot;rw[rf,rf]
 ·rw[hd,show has #[] j=false from rfl];exact AL
 ·intro z;have z:=eq_of_beq z;rw[hp,Of]at z;exact hj (ba z)
theorem Hw (t:SetTable)(hashAt:Nat->Int)(h:Int):∀n fuel p,n<fuel->(∀k,k<n->∃i,t.slot (go t.mask k p).j=.live i/\hashAt i≠h)->probe.go t hashAt h fuel p=probe.go t hashAt h (fuel-n) (go t.mask n p)
 |0,fuel=>λp _ _=>rfl
 |n+1,0=>λp hf _=>'O'
 |n+1,fuel+1=>λp hf hk=>by
  obtain⟨i,h1,h2⟩:=hk 0 (aem n);have e:probe.go t hashAt h (fuel+1) p=probe.go t hashAt h fuel (qU t.mask p):=by
   conv=>lhs;unfold probe.go
   rw[show t.slot p.j=.live i from h1];dsimp only;rw[rf 'J']
   rfl
  rw[e,Hw t hashAt h n fuel (qU t.mask p) 'O' λk tK=>hk (k+1) 'O'];rw[show fuel+1-(n+1)=fuel-n by lia]
  rfl
abbrev Ent:=Nat×Int×vn
structure Tb (led:Bool) (t:SetTable) (L:List Ent):Prop where
 place:t.place=(L.map (·.1)).toArray
 wN:t.dummies=#[]
 plain:t.plain=true
 led:t.led=led
 mask:Good t.mask
 room:L.length*5<t.mask*3
 up:(L.map (·.1)).Pairwise (· < ·)
 le:∀e∈L,e.1<=t.mask
 nd:(L.map (·.2.1)).Nodup
 wO:∀e∈L,mh t.mask (L.map (·.1)) e.2.1 e.1
theorem Tb.lt {led:Bool}(T:Tb led t L):L.length<=t.mask:=by have:=T.room;lia
theorem Tb.fits {led:Bool}(T:Tb led t L):t.fits (L.map (·.2)).toArray.size=true:=by
 unfold SetTable.fits SetTable.fill;rw[T.place,T.wN];have:=T.lt
 simp_all
theorem Tb.hit {led:Bool}(T:Tb led t L)(hh:∀i e,L[i]?=some e->hashAt i=e.2.1)(hi:L[i]?=some e):∃nx,t.probe hashAt e.2.1 (t.probeStart e.2.1)=some (.candidate e.1 i nx):=by
 obtain⟨n,h1,h2,h3⟩:_:=T.wO e (ba hi);obtain⟨n0,k1,k2,k3⟩:_:=least (p:=λn=>(go t.mask n (p0 t.mask e.2.1)).j=e.1) h2;have qP:(L.map (·.1))[i]?=some e.1:=by rw[l8,hi];rfl
 have key:=Hw t hashAt e.2.1 n0 (10*turns t.mask) (p0 t.mask e.2.1) 'O' λk hk=>by
  have hm:=h3 k 'O';obtain⟨q,hq,eq⟩:_:=DO hm;have nC:q<L.length:=by rw[aa]at hq;exact hq
  have e1:(L.map (·.1))[q]?=some (go t.mask k (p0 t.mask e.2.1)).j:=by rw[ab hq,eq]
  refine⟨q,Cj T.place T.up e1,λz=>?_⟩;rw[hh q L[q] (ab nC)]at z;have hil:=(gz.mp hi).1;have ei:=(gz.mp hi).2;have:q=i:=by
   refine(List.getElem_inj (h₀:=by rw[aa];exact nC) (h₁:=by rw[aa];exact hil) T.nd).mp ?_;rw[afc,afc,z,ei]
  subst this;rw[e1]at qP;exact k3 k hk (FF qP)
 refine⟨t.advance (go t.mask n0 (p0 t.mask e.2.1)),?_⟩;show probe.go t hashAt e.2.1 (10*turns t.mask) (p0 t.mask e.2.1)=_;rw[key,show 10*turns t.mask-n0=(10*turns t.mask-n0-1)+1 by lia];unfold probe.go;rw[k2,Cj T.place T.up qP];dsimp only;rw[hh i e hi,uu 'Y']
theorem Tb.miss {led:Bool}(T:Tb led t L)(hh:∀i e,L[i]?=some e->hashAt i=e.2.1)(hn:h∉L.map (·.2.1)):∃j,t.probe hashAt h (t.probeStart h)=some (.empty j none)/\j∉L.map (·.1)/\j<=t.mask/\mh t.mask (L.map (·.1)) h j:=by
 obtain⟨j,j1,j2,r⟩:=Xe (ns:=L.map (·.1)) T.mask h (by rw[aa];exact T.lt);refine⟨j,?_,j1,j2,r⟩;obtain⟨n,h1,h2,h3⟩:=r;have dn:∀n i pt,(go t.mask n (gf t.mask i pt)).dummy=none:=by
  have:∀n p,(go t.mask n p).dummy=p.dummy:=by
   intro n
   induction n with
   |zero=>intro p;rfl
   |succ n ih=>
    grind [go,qU]
  exact λn i pt=>this n _
 have key:=Hw t hashAt h n (10*turns t.mask) (p0 t.mask h) 'O' λk hk=>by
  have hm:=h3 k 'O';obtain⟨q,hq,eq⟩:=DO hm;have nC:q<L.length:=by grind
  have e1:(L.map (·.1))[q]?=some (go t.mask k (p0 t.mask h)).j:='J'
  refine⟨q,Cj T.place T.up e1,λz=>?_⟩
  grind
 show probe.go t hashAt h (10*turns t.mask) (p0 t.mask h)=_;rw[key,show 10*turns t.mask-n=(10*turns t.mask-n-1)+1 by lia];unfold probe.go;rw[h2,We T.place T.wN j1]
 grind [p0]
theorem NC (j:Nat):∀ns:List Nat,ns.Pairwise (· < ·)->∃k,k<=ns.length/\(∀x∈ns.take k,x<j)/\∀x∈ns.drop k,¬x<j
 |[],_=>⟨0,br _,(λx h=>nomatch h),λx h=>nomatch h⟩
 |n::ns,h=>by
  rw[List.pairwise_cons]at h;by_cases hn:n<j
  ·obtain⟨k,h1,h2,h3⟩:_:=NC j ns h.2;refine⟨k+1,'J',λx hx=>?_,h3⟩
   grind
  ·refine⟨0,AM _,(λx h=>nomatch h),λx hx=>?_⟩
   grind
theorem Yh {ns:List Nat}(h0:k<=ns.length)(h1:∀x∈ns.take k,x<j)(h2:∀x∈ns.drop k,¬x<j):below ns.toArray j=k:=by
 refine L2.Ca 'Z' (λq a b=>?_) λq a b=>?_
 ·exact h1 _ (WI.mpr ⟨q,'J'⟩)
 ·exact h2 _ (WI.mpr ⟨q-k,'J'⟩)
def fT (L:List Ent)(k:Nat)(e:Ent):List Ent:=L.take k++[e]++L.drop k
theorem Dl:x∈fT L k e↔x=e\/x∈L:=by
 unfold fT
 conv=>rhs;rw[<- ET k L,qr]
 grind
theorem Kg (L:List Ent)(k:Nat)(e:Ent):(fT L k e).Perm (e::L):=by
 unfold fT;rw[CS,List.singleton_append];refine List.perm_middle.trans ?_
 simp_all
theorem Tb.put {led:Bool}(T:Tb led t L)(hn:h∉L.map (·.2.1))(j1:j∉L.map (·.1))(j2:j<=t.mask)(r:mh t.mask (L.map (·.1)) h j):
  ∃k,t.put j=({t with place:=((fT L k (j,h,x)).map (·.1)).toArray},k)/\SetTable.insertAt (L.map (·.2)).toArray k (h,x)=((fT L k (j,h,x)).map (·.2)).toArray /\
   ((fT L k (j,h,x)).length*5<t.mask*3->Tb led {t with place:=((fT L k (j,h,x)).map (·.1)).toArray} (fT L k (j,h,x)))/\((fT L k (j,h,x)).map (·.1)).Pairwise (· < ·)/\((fT L k (j,h,x)).map (·.2.1)).Nodup:=by
 obtain⟨k,k0,k1,k2⟩:_:=NC j _ T.up;have hb:below t.place j=k:=by rw[T.place];exact Yh k0 k1 k2
 have up:((fT L k (j,h,x)).map (·.1)).Pairwise (· < ·):=by
  unfold fT;rw[BN,BN,List.map_take,af0];rw[afg,afg];have hT:=T.up
  grind
 have nd:((fT L k (j,h,x)).map (·.2.1)).Nodup:=by
  refine((Kg L k (j,h,x)).map (·.2.1)).nodup_iff.mpr ?_;rw[JJ,AE];exact⟨hn,T.nd⟩
 refine⟨k,?_,?_,λhr=>?_,up,nd⟩
 ·unfold SetTable.put;have hh:has t.dummies j=false:=by rw[T.wN];rfl
  have:insertAt t.place k j=((fT L k (j,h,x)).map (·.1)).toArray:=by
   apply Array.ext';rw[SetTable.toList_insertAt,T.place];unfold fT
   simp_all
  simp_all
 ·apply Array.ext'
  simp_all [SetTable.toList_insertAt,fT]
 ·refine⟨rfl,T.wN,T.plain,T.led,T.mask,hr,up,λe he=>?_,nd,λe he=>?_⟩
  ·obtain rfl|he:=Dl.mp he
   ·omega
   ·exact T.le e he
  ·have sub:∀y∈L.map (·.1),y∈(fT L k (j,h,x)).map (·.1):=λy hy=>by
    obtain⟨q,hq,rfl⟩:=i8.mp hy;exact i8.mpr ⟨q,Dl.mpr (.inr hq),rfl⟩
   obtain rfl|he:=Dl.mp he
   ·exact r.mono sub
   ·exact(T.wO e he).mono sub
structure Ow (m:Nat) (hs:LI) (ss:List Nat) (owner:Array (Option Nat)):Prop where
 len:ss.length=hs.length
 size:owner.size=m+1
 nd:ss.Nodup
 le:∀s∈ss,s<=m
 own:∀(j i:Nat),j<=m->(owner[j]?=some (some i)↔ss[i]?=some j)
 emp:∀(j:Nat),j<=m->(owner[j]?=some none↔j∉ss)
 wO:∀(i s:Nat) (h:Int),ss[i]?=some s->hs[i]?=some h->mh m ss h s
theorem Ow.Hy (O:Ow m hs ss owner)(hj:j<=m):(owner.getD j (some 0)).isNone=true↔j∉ss:=by
 rw[<- O.emp j hj];have:j<owner.size:=by rw[O.size];lia
 simp_all
theorem Xf (O:Ow m hs ss owner):∀fuel L i pt,i<=m->L<fuel->(lp m L (i,pt)).1∉ss ->
  ∃n,n<10*fuel/\layClean.free m owner fuel i pt=some (go m n (gf m i pt)).j/\(go m n (gf m i pt)).j∉ss/\(go m n (gf m i pt)).j<=m/\∀k,k<n->(go m k (gf m i pt)).j∈ss:=by
 intro fuel
 induction fuel with
 |zero=>intro L i pt _ h;lia
 |succ fuel ih=>
  intro L i pt hi hL hn;have r:=NA hi;have r9:=Qn m i;have at_:∀k,k<=runEnd m i-i->(go m k (gf m i pt)).j=i+k:=λk hk=>by
   unfold gf;rw[yT m i pt k _ _ hk]
  unfold layClean.free;cases hf:(List.range (runEnd m i+1-i)).find? λk=>(owner.getD (i+k) (some 0)).isNone with
  |some k=>
   obtain⟨h1,h2,h3⟩:=List.find?_range_eq_some.mp hf;have hk:=l9.mp h2;have e:=at_ k 'Z';refine⟨k,'Z',by rw[e],by rw[e];exact(O.Hy 'Z').mp h1,by rw[e];omega,λq hq=>?_⟩;rw[at_ q 'Z'];have:=h3 q hq;exact ES λz=>by
    rw[(O.Hy 'Z').mpr z]at this;cases this
  |none=>
   have h3:=List.find?_range_eq_none.mp hf;have Rv:∀k,k<=runEnd m i-i->i+k∈ss:=λk hk=>ES λz=>by
    have:=h3 k 'Z';rw[(O.Hy 'Z').mpr z]at this;cases this
   cases L with
   |zero=>exact absurd (Rv 0 (AM _)) hn
   |succ L=>
    obtain⟨n,a1,a2,a3,a4,a5⟩:_:=ih L (leap m i pt).1 (leap m i pt).2 (Zl (aeW _ (aem m))) 'O' hn;have eg:∀q,go m (runEnd m i-i+1+q) (gf m i pt)=go m q (gf m (leap m i pt).1 (leap m i pt).2):=λq=>by rw[uY,Dk]
    refine⟨runEnd m i-i+1+n,'O',by rw[eg];exact a2,by rw[eg];exact a3,by rw[eg];exact a4,λq hq=>?_⟩;obtain z|z:=EM (runEnd m i-i) q
    ·rw[show q=runEnd m i-i+1+(q-(runEnd m i-i+1)) by omega,eg];exact a5 _ 'Z'
    ·rw[at_ q z];exact Rv q z
theorem Kh {α β:Type}{f g : α->Option β}:∀{l:List α},(∀x∈l,f x=g x)->l.filterMap f=l.filterMap g
 |[] => λ_=>rfl
 |a::l=>λh=>by
  rw[ad6,ad6,h a (WS ..),Kh λx hx=>h x (Na _ hx)]
def zy (m:Nat)(acc:Option (Array (Option Nat)×Nat))(h:Int):Option (Array (Option Nat)×Nat):=do
 let (owner,k)<-acc
 let j<-layClean.free m owner (turns m) (bits h%(m+1)) (bits h)
 pure (owner.setIfInBounds j (some k),k+1)
theorem ZT (hm:Good m)(O:Ow m hs ss owner)(h:Int)(hl:hs.length<=m):∃j,zy m (some (owner,ss.length)) h=some (owner.setIfInBounds j (some ss.length),ss.length+1)/\Ow m (hs++[h]) (ss++[j]) (owner.setIfInBounds j (some ss.length)):=by
 obtain⟨j0,h0,h1⟩:∃j,j<=m/\j∉ss:=by
  apply ES;intro z;have:=Hu (m+1) ss λj hj=>ES λq=>z ⟨j,'O',q⟩
  have:=O.len;lia
 obtain⟨L,hL,eL⟩:_:=cover (pt:=bits h) (i:=bits h%(m+1)) hm (LA h) (Zl (aeW _ (aem m))) h0;obtain⟨n,a1,a2,a3,a4,a5⟩:_:=Xf O (turns m) L (bits h%(m+1)) (bits h) (Zl (aeW _ (aem m))) (by show L<m+15;lia) 'J';generalize hj:(go m n (gf m (bits h%(m+1)) (bits h))).j=j at a2 a3 a4;refine⟨j,?_,?_⟩
 ·unfold zy
  simp_all
 ·have sj:j<owner.size:=by rw[O.size];lia
  refine⟨by rw[xw,xw,O.len];rfl,by rw[Array.size_setIfInBounds];exact O.size,?_,λs hs=>?_,λq i hq=>?_,λq hq=>?_,λi s h' e1 e2=>?_⟩
  ·rw[ze];exact⟨O.nd,AE.mpr ⟨(λz=>nomatch z),.nil⟩,λa ha b hb z=>'J'⟩
  ·obtain hs|hs:=qr.mp hs
   ·exact O.le s hs
   ·simp_all
  ·rw[afm];by_cases e:j=q
   ·grind
   ·rw[rf e,O.own q i hq]
    grind
  ·rw[afm];by_cases e:j=q
   ·simp_all
   ·rw[rf e,O.emp q hq]
    grind
  ·have sub:∀x∈ss,x∈ss++[j]:=λx hx=>xy _ hx
   obtain hi|hi:=EM i ss.length
   ·rw[Cf hi]at e1;rw[Cf (by rw[<- O.len];exact hi)]at e2;exact(O.wO i s h' e1 e2).mono sub
   ·rw[wb hi]at e1;rw[wb (by rw[<- O.len];exact hi)]at e2;have q1:=BB.mp (ba e1);have q2:=BB.mp (ba e2);subst q1 q2;exact⟨n,a1,hj,λk hk=>sub _ (a5 k hk)⟩
theorem LC (hm:Good m):∀rest hs ss owner,Ow m hs ss owner->hs.length+rest.length<=m+1->∃Hz Ef,rest.foldl (zy m) (some (owner,ss.length))=some (Ef,Hz.length)/\Ow m (hs++rest) Hz Ef
 |[] => λhs ss owner O _=>⟨ss,owner,rfl,'J'⟩
 |h::rest=>λhs ss owner O hl=>by
  rw[ID]at hl;obtain⟨j,h1,h2⟩:=ZT hm O h 'O';obtain⟨Hz,Ef,h3,h4⟩:_:=LC hm rest (hs++[h]) (ss++[j]) _ h2 (by grind)
  grind
theorem Yi (hm:Good m)(hs:Array Int)(hl:hs.size<=m+1):∃ss owner,layClean m hs=some owner/\Ow m hs.toList ss owner:=by
 have O0:Ow m [] [] (Array.replicate (m+1) none):=by
  refine⟨rfl,Array.size_replicate,.nil,(λs h=>nomatch h),λj i hj=>?_,λj hj=>?_,λi s h e=>by cases e⟩
  ·grind
  ·grind
 obtain⟨ss,owner,h1,h2⟩:_:=LC hm hs.toList [] [] _ O0 'J';refine⟨ss,owner,?_,'J'⟩;show(hs.foldl (zy m) (some (Array.replicate (m+1) none,0)) |>.map (·.1))=some owner
 simp_all
theorem ZU (hm:Good m){L:List Ent}(hl:L.length<=m+1)(nd:(L.map (·.2.1)).Nodup)(fg mv:Nat)(led plain:Bool):
  ∃(L':List Ent) (order:Array Nat),laid m fg mv led plain ((L.map (·.2)).toArray.map (·.1))=some ({mask:=m,place:=(L'.map (·.1)).toArray,dummies:=#[],finger:=fg,led:=led,moves:=mv,plain:=plain},order)/\order.filterMap ((L.map (·.2)).toArray[·]?)=(L'.map (·.2)).toArray/\(L'.map (·.2)).Perm (L.map (·.2)) /\
   (L'.map (·.1)).Pairwise (· < ·)/\(∀e∈L',e.1<=m)/\∀e∈L',mh m (L'.map (·.1)) e.2.1 e.1:=by
 have eh:((L.map (·.2)).toArray.map (·.1)).toList=L.map (·.2.1):='Y'
 obtain⟨ss,owner,h1,O⟩:_:=Yi hm ((L.map (·.2)).toArray.map (·.1)) (by simpa using hl);rw[eh]at O;have sl:ss.length=L.length:=by rw[O.len,aa]
 obtain⟨live,Fi⟩:∃live,live=(List.range (m+1)).filterMap λj=>(owner.getD j none).map (j,·):=⟨_,rfl⟩
 have mem:∀j i,(j,i)∈live↔ss[i]?=some j:=λj i=>by
  rw[Fi,afw]
  constructor
  ·rintro⟨q,hq,e⟩;have hq:=l9.mp hq;have sq:q<owner.size:=by rw[O.size];lia
   rw[aft,TM sq,Option.getD_some]at e;obtain⟨i',e1,e2⟩:=aaa.mp e;cases e2;exact(O.own j i 'O').mp (by rw[TM sq,e1])
  ·intro e;have hj:=O.le j (ba e);have sq:j<owner.size:=by rw[O.size];lia
   refine⟨j,l9.mpr 'O',?_⟩;have:=(O.own j i hj).mpr e;rw[aft,this]
   rfl
 have lt:∀q∈live,q.2<L.length:=λq hq=>by
  have:=(gz.mp ((mem q.1 q.2).mp hq)).1;lia
 have up:(live.map (·.1)).Pairwise (· < ·):=by
  rw[Fi,OF,List.pairwise_filterMap];refine(aeU).imp λ{a b} ck x hx y hy=>?_
  obtain⟨_,_,rfl⟩:=aaa.mp hx;obtain⟨_,_,rfl⟩:=aaa.mp hy;exact ck
 obtain⟨L',Ax⟩:∃L',L'=live.map λq=>(q.1,(L.getD q.2 (0,0,.none)).2):=⟨_,rfl⟩
 have e1:L'.map (·.1)=live.map (·.1):=by rw[Ax,i4];rfl
 have gd:∀i,i<L.length->∃e,L[i]?=some e/\L.getD i (0,0,.none)=e:=λi hi=>⟨L[i],ab hi,by rw[ir,ab hi];rfl⟩
 have qf:∀e,e∈L'↔∃(i:Nat) (e0:Ent),ss[i]?=some e.1/\L[i]?=some e0/\e.2=e0.2:=λe=>by
  rw[Ax,i8]
  constructor
  ·rintro⟨q,hq,rfl⟩;obtain⟨e0,z1,z2⟩:=gd q.2 (lt q hq);exact⟨q.2,e0,(mem q.1 q.2).mp hq,z1,by show(L.getD q.2 _).2=_;rw[z2]⟩
  ·rintro⟨i,e0,z1,z2,z3⟩;refine⟨(e.1,i),(mem e.1 i).mpr z1,?_⟩;rw[ir,z2,Option.getD_some,<- z3]
 have Rx:(L'.map (·.2.1)).Nodup:=by
  rw[Ax,i4];unfold List.Nodup;rw[OF];rw[OF]at up;refine up.imp_of_mem λ{a b} ha hb ck z=>?_
  obtain⟨ea,a1,a2⟩:=gd a.2 (lt a ha);obtain⟨eb,b1,b2⟩:=gd b.2 (lt b hb);have z':ea.2.1=eb.2.1:=by rw[<- a2,<- b2];exact z
  have:a.2=b.2:=by
   refine(List.getElem_inj (h₀:=by rw[aa];exact lt a ha) (h₁:=by rw[aa];exact lt b hb) nd).mp ?_;rw[afc,afc,(gz.mp a1).2,(gz.mp b1).2,z']
  have s1:=(mem a.1 a.2).mp ha;have s2:=(mem b.1 b.2).mp hb;rw[this,s2]at s1;have:=FF s1;lia
 refine⟨L',(live.map (·.2)).toArray,?_,?_,?_,by rw[e1];exact up,λe he=>?_,λe he=>?_⟩
 ·unfold laid;rw[h1];dsimp [Option.bind_eq_bind,Option.bind_some,Option.pure_def];rw[<- Fi,e1]
 ·apply Array.ext';rw[Array.toList_filterMap];rw[List.filterMap_map,Ax,i4,show ∀(f),live.map f=live.filterMap (some∘f)from λf=>by rw[List.filterMap_eq_map]];refine Kh λq hq=>?_
  obtain⟨e0,z1,z2⟩:_:=gd q.2 (lt q hq);show(L.map (·.2)).toArray[q.2]?=some (L.getD q.2 (0,0,.none)).2;rw[Of,l8,z1,z2]
  rfl
 ·have Au:(L'.map (·.2)).Nodup:=by
   have:(L'.map (·.2)).map (·.1)=L'.map (·.2.1):=by rw[i4];rfl
   rw[<- this]at Rx;exact afh _ (λa b ck z=>ck (by rw[z])) Rx
  have Av:(L.map (·.2)).Nodup:=by
   have:(L.map (·.2)).map (·.1)=L.map (·.2.1):=by rw[i4];rfl
   rw[<- this]at nd;exact afh _ (λa b ck z=>ck (by rw[z])) nd
  refine(aat Au Av).mpr λx=>?_
  rw[i8,i8]
  constructor
  ·rintro⟨e,he,rfl⟩;obtain⟨i,e0,_,z2,z3⟩:=(qf e).mp he;exact⟨e0,ba z2,z3.symm⟩
  ·rintro⟨e0,he,rfl⟩;obtain⟨i,hi,ei⟩:=DO he;have z2:L[i]?=some e0:=by rw[ab hi,ei]
   exact⟨(ss[i]'(by lia),e0.2),(qf _).mpr ⟨i,e0,ab 'O',z2,rfl⟩,rfl⟩
 ·obtain⟨i,e0,z1,_,_⟩:=(qf e).mp he;exact O.le _ (ba z1)
 ·obtain⟨i,e0,z1,z2,z3⟩:=(qf e).mp he;have:=O.wO i e.1 e.2.1 z1 (by rw[l8,z2,z3];rfl);refine this.mono λs hs=>?_
  obtain⟨q,hq,eq⟩:=DO hs;rw[e1];exact i8.mpr ⟨(s,q),(mem s q).mpr (by rw[ab hq,eq]),rfl⟩
end Ts
namespace Ts
open PySem PySem.Spec PyProof.Rows
def hP (p:Nat×Nat):Int:=reduceHash (Builtin.Tuple.tupleHashOf [hashInt (p.1:Int),hashInt (p.2:Int)])
def nj:List (Nat×Nat):=(List.range 7).flatMap λa=>(List.range 7).map λb=>(a,b)
theorem ND (hp:p.1<=6/\p.2<=6)(hq:q.1<=6/\q.2<=6)(h:hP p=hP q):p=q:=by
 have key:(nj.all λp=>nj.all λq=>decide (hP p=hP q->p=q))=true:='W'
 have mem:∀p,p.1<=6/\p.2<=6->p∈nj:=λp h=>aeB.mpr ⟨p.1,l9.mpr 'O',i8.mpr ⟨p.2,l9.mpr 'O',rfl⟩⟩
 grind
abbrev kP (p:Nat×Nat):List L2.Key:=[.inl (p.1:Int),.inl (p.2:Int)]
def gE (h:Heap)(p:Nat×Nat)(a:adV):Prop:=∃o n t u,h.get? a=some o/\o.cls=.type "tuple"/\o.data=.seq #[.int (p.1:Int) t,.int (p.2:Int) u] n
theorem gE.key (x:gE h p a):IsTupleKey (L2.uy prog w) h (kP p) a:=by
 obtain⟨o,n,t,u,h1,h2,h3⟩:_:=x;exact⟨o,_,n,h1,h2,h3,.cons (L2.Jg _ _ _ _) (.cons (L2.Jg _ _ _ _) .nil)⟩
theorem gE.typeIs {s:adX}(x:gE s.heap p a):s.TypeIs (.ref a) "tuple":=by obtain⟨o,_,_,_,ho,hc,_⟩:_:=x;exact⟨o,ho,hc⟩
theorem gE.at (x:gE h p a)(e:∀o,h.get? a=some o->h'.get? a=some o):gE h' p a:=by obtain⟨o,n,t,u,ho,r⟩:=x;exact⟨o,n,t,u,e o ho,r⟩
section
theorem ach (x:gE s.heap p a)(h:Q true s):wpAny (model prog w) A (hashByValue 8 (.ref a)) Q E s:=by
 have hT:=x.typeIs;obtain⟨o,n,t,u,ho,_,hd⟩:_:=x;refine ar (aeO hT F.slot_tuple_hash.lookup ?_);refine ar (afL ho hd ?_);refine ar ?_;rw[<- Array.forIn_toList];refine wpAny_forIn_list _ (λrest r s'=>r.1=none/\s'=s/\∀v∈rest,∃i t,v=Value.int i t) _ ?_ ?_ _ _ ⟨rfl,rfl,λv hv=>?_⟩
 ·rintro v rest r s' ⟨hr,rfl,fS⟩;obtain⟨i,t',rfl⟩:=fS v WS;refine ar (wpAny_pure ?_)
  grind [wpAny_pure]
 ·grind [wpAny_pure]
 ·grind
theorem ofClass (x:gE s.heap p a)(h:Q false s):wpAny (model prog w) A (ofAClassStatement 8 (.ref a)) Q E s:=by
 have hT:=x.typeIs;obtain⟨o,n,t,u,ho,_,hd⟩:_:=x;unfold ofAClassStatement;refine ar (wpAny_typeOf hT ?_);refine ar (wpAny_pure ?_);refine ar (afL ho hd ?_);refine ar ?_;rw[<- Array.forIn_toList];refine wpAny_forIn_list _ (λrest r s'=>r.1=none/\s'=s/\∀v∈rest,∃i t,v=Value.int i t) _ ?_ ?_ _ _ ⟨rfl,rfl,λv hv=>?_⟩
 ·rintro v rest r s' ⟨hr,rfl,fS⟩;obtain⟨i,t',rfl⟩:=fS v WS;refine ar (wpAny_pure ?_)
  grind [wpAny_pure]
 ·grind [wpAny_pure]
 ·grind
theorem seen (x:gE s.heap p a)(hl:∀v∈l,∃q b,v=.ref b/\gE s.heap q b)(h:Q false s):wpAny (model prog w) A (searchCouldBeSeen (.ref a) l) Q E s:=by
 refine ar ?_;refine wpAny_forIn_list _ (λrest r s'=>r.1=none/\s'=s/\∀v∈rest,∃q b,v=.ref b/\gE s.heap q b) _ ?_ ?_ _ _ ⟨rfl,rfl,hl⟩
 ·rintro v rest r s' ⟨hr,rfl,fS⟩;obtain⟨q,b,rfl,xb⟩:_:=fS v WS;dsimp only;by_cases ck:(a==b)=true
  ·rw[uu (by rw[ck];rfl)];exact wpAny_pure ⟨rfl,rfl,λu bp=>fS u (Na _ bp)⟩
  ·rw[rf (by rw[Bool.not_eq_true]at ck;rw[ck];exact AL)];refine ar (wpAny_eqIsQuiet_tuple (knd:=L2.uy prog w) x.key ?_);refine ar (wpAny_eqIsQuiet_tuple xb.key ?_);refine ar (ofClass x ?_);refine ar (ofClass xb ?_);exact wpAny_pure ⟨rfl,rfl,λu bp=>fS u (Na _ bp)⟩
 ·rintro⟨r1,r2⟩ s' ⟨hr,rfl,_⟩;subst hr;exact wpAny_pure h
def iW (led:Bool)(h:Heap)(S:adV)(L:List Ent):Prop:=∃o t ep,h.get? S=some o/\o.ExactSet/\o.data=.set (L.map (·.2)).toArray ep t/\Tb led t L
theorem iW.at (x:iW led h a L)(e:∀o,h.get? a=some o->h'.get? a=some o):iW led h' a L:=
 by obtain⟨o,t,ep,ho,r⟩:=x;exact⟨o,t,ep,e o ho,r⟩
def Ek (h:Heap)(e:Int×vn)(p:Nat×Nat):Prop:=(p.1<=6/\p.2<=6)/\∃a,e=(hP p,.ref a)/\gE h p a
theorem JL {L:List Ent}(i:Nat)(e:Ent)(h:L[i]?=some e):(((L.map (·.2)).toArray[i]?).map (·.1)).getD 0=e.2.1:=by
 simp_all
theorem Qo (h:Good m):(m%2==0)=false:=by obtain rfl|rfl|rfl:=h<;>rfl
theorem Wg (hu:A.units<cLine)(ho:s.heap.get? S=some o)(hd:o.data=.set (L.map (·.2)).toArray ep t)(T:Tb led t L)(hE:∀e∈L,∃q,Ek s.heap e.2 q)(x:gE s.heap p a)(sp:p.1<=6/\p.2<=6)(he:e∈L)(hh:e.2.1=hP p)(h:Q (.there none) s):
  wpAny (model prog w) A (setSearch S (.ref a) (hP p) true) Q E s:=by
 obtain⟨i,hi,ei⟩:_:=DO he;have iL:L[i]?=some e:='J'
 obtain⟨nx,hp⟩:=T.hit JL iL;rw[hh]at hp;obtain⟨q,sq,b,eb,xb⟩:_:=hE e he;have pq:=ND sq sp (by rw[<- hh,eb]);subst pq;refine ar (OK ho hd T.fits ?_);dsimp only;rw[rf (by show ¬(t.mask%2==0)=true;rw[Qo T.mask];exact AL)];have Ak:t.probe (λi=>(((L.map (·.2)).toArray[i]?).map (·.1)).getD 0) (hP q) ((none:Option SetTable.Probe).getD (t.probeStart (hP q)))=some (.candidate e.1 i nx):=hp;refine ar (wpAny_pure ?_);show wpAny _ _ (match t.probe (λi=>(((L.map (·.2)).toArray[i]?).map (·.1)).getD 0) (hP q) ((none).getD (t.probeStart (hP q)))with|some met=>_|_=>_) _ _ _;rw[Ak];dsimp only;have tail:wpAny (model prog w) A (do
   let some (_,y):=(L.map (·.2)).toArray[i]? | unsupported "internal:set-entry"
   let equal<-holding [y] (eqBool y (.ref a))
   let (oH,_,t')<-setState S
   if true&&equal then return .there none
   let some same:=t'.sameMemory t.moves t.mask|unsupported "set.changed-during-lookup:is-the-new-block-at-the-old-address"
   let aci<-match(if same then t'.slot e.1 else .empty)with
    | .live i'=>match oH[i']? with
     |some (_,y')=>do pure (if<-isSame y' y then some i' else none)
     |none=>pure none
    |_=>pure none
   match aci with
   |none=>rule "set.search.anew"; setSearchFrom S (.ref a) (hP q) true 99999 none
   |some i'=>if equal then return .there (some i')else setSearchFrom S (.ref a) (hP q) true 99999 (some nx)) Q E s:=by
  have eg:(L.map (·.2)).toArray[i]?=some (hP q,.ref b):='J'
  rw[eg];refine ar (Po (wpAny_eqBool_tuple hu xb.key x.key ?_));rw[EO rfl];refine ar (OK ho hd T.fits ?_);exact wpAny_pure h
 by_cases hl:t.led=true
 ·rw[rf (by rw[hl];decide)];exact tail
 ·rw[uu (by simpa using hl)];refine ar (seen x (λv hv=>?_) ?_)
  ·obtain⟨y,hy,rfl⟩:=i8.mp hv;have hy:=(Array.mem_filter.mp (Array.mem_toList_iff.mp hy)).1;have fY:y∈L.map (·.2):=by simpa using hy
   obtain⟨e',jW,rfl⟩:=i8.mp fY;obtain⟨q',_,b',eb',xb'⟩:_:=hE e' jW
   grind
  ·exact tail
theorem VL (ho:s.heap.get? S=some o)(hd:o.data=.set (L.map (·.2)).toArray ep t)(T:Tb led t L)(hn:h0∉L.map (·.2.1))(h:∀j,j∉L.map (·.1)->j<=t.mask->mh t.mask (L.map (·.1)) h0 j->Q (.free j false) s):
  wpAny (model prog w) A (setSearch S (.ref a) h0 true) Q E s:=by
 obtain⟨j,hp,j1,j2,r⟩:_:=T.miss JL hn;refine ar (OK ho hd T.fits ?_);dsimp only;rw[rf (by show ¬(t.mask%2==0)=true;rw[Qo T.mask];exact AL)];refine ar (wpAny_pure ?_);have Ak:t.probe (λi=>(((L.map (·.2)).toArray[i]?).map (·.1)).getD 0) h0 ((none:Option SetTable.Probe).getD (t.probeStart h0))=some (.empty j none):=hp;show wpAny _ _ (match t.probe (λi=>(((L.map (·.2)).toArray[i]?).map (·.1)).getD 0) h0 ((none).getD (t.probeStart h0))with|some met=>_|_=>_) _ _ _
 grind [wpAny_pure]
end
theorem Wh {t:SetTable}{L:List Ent}(hm:t.mask=7/\L.length=5\/t.mask=31/\L.length=19)(nd:(L.map (·.2.1)).Nodup)(hp:t.plain=true):∃(L':List Ent) (t':SetTable) (order:Array Nat),t.relaid ((L.map (·.2)).toArray.map (·.1)) (SetTable.grown L.length)=some (t',order)/\order.filterMap ((L.map (·.2)).toArray[·]?)=(L'.map (·.2)).toArray/\(L'.map (·.2)).Perm (L.map (·.2))/\Tb t.led t' L'/\SetTable.sizeAbove (SetTable.grown L.length)<=1000:=by
 have key:∀m,SetTable.sizeAbove (SetTable.grown L.length)-1=m->Good m->L.length*5<m*3->∃(L':List Ent) (t':SetTable) (order:Array Nat),t.relaid ((L.map (·.2)).toArray.map (·.1)) (SetTable.grown L.length)=some (t',order)/\order.filterMap ((L.map (·.2)).toArray[·]?)=(L'.map (·.2)).toArray/\(L'.map (·.2)).Perm (L.map (·.2))/\Tb t.led t' L':=by
  intro m em gm hr;obtain⟨L',order,h1,h2,h3,h4,h5,h6⟩:_:=ZU gm 'O' nd t.finger (t.movedTo m) t.led t.plain;have hl:L'.length=L.length:=by
   have:=h3.length_eq;rw[aa,aa]at this;exact this
  refine⟨L',{mask:=m,place:=(L'.map (·.1)).toArray,dummies:=#[],finger:=t.finger,led:=t.led,moves:=t.movedTo m,plain:=t.plain},order,?_,h2,h3,⟨rfl,rfl,hp,rfl,gm,by rw[hl];exact hr,h4,h5,?_,h6⟩⟩
  ·unfold SetTable.relaid;rw[em];exact h1
  ·have:=h3.map (·.1);rw[i4,i4]at this;exact this.nodup_iff.mpr nd
 obtain⟨h1,h2⟩|⟨h1,h2⟩:_:=hm
 ·have e:SetTable.sizeAbove (SetTable.grown L.length)=32:=by rw[h2];decide
  obtain⟨L',t',order,a⟩:=key 31 (by rw[e]) (.inr (.inl rfl)) 'O';exact⟨L',t',order,a.1,a.2.1,a.2.2.1,a.2.2.2,'O'⟩
 ·have e:SetTable.sizeAbove (SetTable.grown L.length)=128:=by rw[h2];decide
  obtain⟨L',t',order,a⟩:=key 127 (by rw[e]) (.inr (.inr rfl)) 'O';exact⟨L',t',order,a.1,a.2.1,a.2.2.1,a.2.2.2,'O'⟩
section
theorem ZV (hu:A.units<cLine)(hS:iW led s.heap S L)(hE:∀e∈L,∃q,Ek s.heap e.2 q)(x:gE s.heap p a)(sp:p.1<=6/\p.2<=6)(hh:hP p∈L.map (·.2.1))(h:Q false s):
  wpAny (model prog w) A (setAddHashed S (.ref a) (hP p)) Q E s:=by
 obtain⟨o,t,ep,ho,hex,hd,T⟩:_:=hS;obtain⟨e,he,eh⟩:=i8.mp hh;refine Po ?_;refine ar (OK ho hd T.fits ?_);refine ar (Wg hu ho hd T hE x sp he eh ?_);exact wpAny_pure h
theorem ZW (hS:iW led s.heap S L)(hl:L.length<70)(x:gE s.heap p a)(hh:hP p∉L.map (·.2.1))(h:∀h' L',Heap.SameBut S s.heap h'->iW led h' S L'->(L'.map (·.2)).Perm ((hP p,.ref a)::L.map (·.2))->Q true {s with heap:=h'}):
  wpAny (model prog w) A (setAddHashed S (.ref a) (hP p)) Q E s:=by
 obtain⟨o,t,ep,ho,hex,hd,T⟩:=hS;have big:=afW;refine Po ?_;refine ar (OK ho hd T.fits ?_);dsimp only;refine ar (VL ho hd T hh λj j1 j2 r=>?_);refine ar (OK ho hd T.fits ?_);obtain⟨k,k1,k2,k3,k4,k5⟩:=T.put hh j1 j2 r;generalize hN:fT L k (j,hP p,Value.ref a)=N at k1 k2 k3 k4 k5;have pm:(N.map (·.2)).Perm ((hP p,.ref a)::L.map (·.2)):=by grind [Kg]
 have nl:N.length=L.length+1:=by
  have:=pm.length_eq
  grind
 rw[k1];rw[uu (T.plain)];refine ar (ach x ?_);rw[uu rfl];have tp:({t with place:=(N.map (·.1)).toArray}:SetTable).plain=true:=T.plain;have tl:({t with place:=(N.map (·.1)).toArray}:SetTable).led=led:=T.led;have tm:({t with place:=(N.map (·.1)).toArray}:SetTable).mask=t.mask:=rfl;have tpl:({t with place:=(N.map (·.1)).toArray}:SetTable).place=(N.map (·.1)).toArray:=rfl;have tdu:({t with place:=(N.map (·.1)).toArray}:SetTable).dummies=#[]:=T.wN;generalize HA:({t with place:=(N.map (·.1)).toArray}:SetTable)=t1 at k3 tp tl tm tpl tdu;rw[k2];have cT:(N.map (·.2)).toArray.size=N.length:=by grind
 refine ar (wpAny_storeSet_of ho hd ?_ 'O');have hg:(s.heap.update S (Obj.putSet (N.map (·.2)).toArray t1)).get? S=some {o with data:=.set (N.map (·.2)).toArray (ep+1) t1}:=by
  have:=NG (Obj.putSet (N.map (·.2)).toArray t1) ho (by rw[putSet_of _ _ hd];rfl)
  grind [putSet_of]
 have fill:t1.fill=N.length:=by grind [SetTable.fill]
 have full:t1.tooFull=decide (t.mask*3<=N.length*5):=by
  grind [SetTable.tooFull]
 by_cases hf:t.mask*3<=N.length*5
 ·rw[uu (by grind)];have r0:=T.room;have hm:t1.mask=7/\N.length=5\/t1.mask=31/\N.length=19:=by
   obtain z|z|z:=T.mask<;>lia
  have FW:t1.fits (N.map (·.2)).toArray.size=true:=by
   grind [SetTable.fits]
  obtain⟨L',t',order,a1,a2,a3,a4,a5⟩:_:=Wh hm k5 tp;have l':L'.length=N.length:=by
   have:=a3.length_eq
   grind
  refine ar ?_;refine ar (OK hg rfl FW ?_);dsimp only;have eg:(L.map (·.2)).toArray.size+1=N.length:='J'
  rw[eg,rf 'O',a1];have hre:∀{Q':(Array (Int×vn)×SetTable)->adX->Prop} {s1:adX},Q' ((L'.map (·.2)).toArray,t') s1->wpAny (model prog w) A (do
    let some (t,order):=(some (t',order))|unsupported "internal:set-table-without-room"
    let oH:=order.filterMap ((N.map (·.2)).toArray[·]?)
    if oH.size != (N.map (·.2)).toArray.size then unsupported "internal:set-table-lost-an-element"
    pure (oH,t)) Q' E s1:=λ{Q' s1} hq=>by
   grind [wpAny_pure]
  refine ar (hre ?_);refine wpAny_storeSet_of hg rfl ?_ (by grind);refine wpAny_pure ?_;have jF:=NG (Obj.putSet (L'.map (·.2)).toArray t') hg 'X';rw[tl]at a4;exact h _ L' ((Pc ..).trans (Pc ..)) ⟨_,_,_,jF,hex,rfl,a4⟩ (a3.trans pm)
 ·rw[rf 'O'];exact wpAny_pure (h _ N (Pc ..) ⟨_,_,_,hg,hex,rfl,k3 'O'⟩ pm)
end
theorem oi {α:Type} [DecidableEq α]:∀(l m:List α),l.Nodup->(∀x∈l,x∈m)->l.length<=m.length
 |[] => λm _ _=>AM _
 |a::l=>λm nd h=>by
  rw[AE]at nd;have:=oi l (m.erase a) nd.2 λx hx=>(List.mem_erase_of_ne (λz:x=a=>nd.1 (z▸hx))).mpr (h x (Na _ hx))
  grind
structure Acc (as:List adV) (ps:List (Nat×Nat)) (i:Nat) (L:List Ent):Prop where
 src:∀e∈L,∃(j:Nat) (a:adV) (p:Nat×Nat),j<i/\as[j]?=some a/\ps[j]?=some p/\e.2=(hP p,.ref a)
 all:∀(j:Nat) (p:Nat×Nat),j<i->ps[j]?=some p->hP p∈L.map (·.2.1)
structure nO (h:Heap) (as:List adV) (ps:List (Nat×Nat)):Prop where
 len:ps.length=as.length
 small:∀p∈ps,p.1<=6/\p.2<=6
 wQ:∀(j:Nat) (a:adV) (p:Nat×Nat),as[j]?=some a->ps[j]?=some p->gE h p a
theorem nO.at (x:nO h as ps)(e:∀a∈as,∀o,h.get? a=some o->h'.get? a=some o):nO h' as ps:=
 ⟨x.len,x.small,λj a p h1 h2=>(x.wQ j a p h1 h2).at (e a (ba h1))⟩
theorem Acc.len (c:Acc as ps i L)(x:nO h as ps)(nd:(L.map (·.2.1)).Nodup):L.length<=49:=by
 have:=oi (L.map (·.2.1)) (nj.map hP) nd λz hz=>by
  obtain⟨e,he,rfl⟩:=i8.mp hz;obtain⟨j,a,p,_,_,hp,ee⟩:=c.src e he;have sm:=x.small p (ba hp);rw[ee];exact i8.mpr ⟨p,aeB.mpr ⟨p.1,l9.mpr 'O',i8.mpr ⟨p.2,l9.mpr 'O',rfl⟩⟩,rfl⟩
 rw[aa,aa]at this;exact this
theorem Acc.ek (c:Acc as ps i L)(x:nO h as ps):∀e∈L,∃q,Ek h e.2 q:=λe he=>by
 obtain⟨j,a,p,_,ha,hp,ee⟩:_:=c.src e he;exact⟨p,x.small p (ba hp),a,ee,x.wQ j a p ha hp⟩
section
variable {St:Nat->Heap->Prop}
theorem Wi (W:Walks prog w A.in1 I fp wr n P St)(S:adV)(wR:S∉fp)(hu:A.units+1<cLine)(hn:n=as.length)(Gh:∀i v,P i v->∃a,as[i]?=some a/\v=.ref a)(Qp:∀a∈as,a∉wr/\a≠S):
  ∀(k i:Nat) (s:adX) (L:List Ent),n-i=k->i<=n->St i s.heap->nO s.heap as ps->iW led s.heap S L->Acc as ps i L ->
   (∀h' tk L',(∀b o,b∉wr->b≠S->s.heap.get? b=some o->h'.get? b=some o)->iW led h' S L'->Acc as ps n L'->R (.ok (.ret .none)) {s with heap:=h',toks:=tk}) ->
   codeAny (model prog w) A (.builtin "set.update.loop" ⟨[.ref S,.ref I],[]⟩) R s:=by
 have Ry:=λh=>wR (W.sub _ h)
 intro k
 induction k with
 |zero=>
  intro i s L hk hi iG kX hS hA hR;have Rz:i=n:='O'
  refine aeN F.entry_set_update_loop ?_;rw[Around.under_plainId aeP _];show wpAny _ A.in1 (pyNext (.ref I) >>= _) _ _ s;refine ar (W.done s _ _ (Rz▸iG) λh' tk hm=>?_);exact wpAny_pure (hR h' tk L (λb o hb _ e=>hm b o hb e) (hS.at λo e=>hm S o Ry e) (Rz▸hA))
 |succ k ih=>
  intro i s L hk hi iG kX hS hA hR;have bD:i<n:='O'
  refine aeN F.entry_set_update_loop ?_;refine ar (W.item i s _ _ bD iG λv h1 tk1 hPi Qq hm=>?_);obtain⟨a,ha,rfl⟩:=Gh i v hPi;have ik:=hS.at λo e=>hm S o Ry e
  have tN:=kX.at λb hb o e=>hm b o (Qp b hb).1 e
  obtain⟨p,hp⟩:∃p,ps[i]?=some p:=⟨_,ab (by rw[kX.len];lia)⟩
  have xp:=tN.wQ i a p ha hp;have sp:=tN.small p (ba hp);have nd:(L.map (·.2.1)).Nodup:=by obtain⟨_,_,_,_,_,_,T⟩:=ik;exact T.nd
  have ll:=hA.len tN nd;have ek:=hA.ek tN;refine ar (Po ?_);refine Po ?_;refine ar (wpAny_pyHash_tuple (by show A.units+1<cLine;exact hu) xp.key ?_);by_cases hh:hP p∈L.map (·.2.1)
  ·refine ZV (by show A.units+1<cLine;exact hu) ik ek xp sp hh ?_;refine wpAny_pure ⟨aeM aeP _,ih (i+1) _ L 'O' bD Qq tN ik ⟨λe he=>?_,λj q hj hq=>?_⟩ λh3 tO L3 HB HC HD=>?_⟩
   ·obtain⟨j,a',q,hj,r⟩:=hA.src e he;exact⟨j,a',q,'O',r⟩
   ·obtain z|z:=EM j i
    ·exact hA.all j q z hq
    ·have:j=i:='O'
     subst this;rw[hp]at hq;cases hq;exact hh
   ·exact hR h3 tO L3 (λb o hb qV e=>HB b o hb qV (hm b o hb e)) HC HD
  ·refine ZW ik 'O' xp hh λh2 L2 HE hS2 pm=>?_
   refine wpAny_pure ⟨aeM aeP _,ih (i+1) _ L2 'O' bD (W.frame _ h1 h2 Qq λb hb o e=>?_) (tN.at λb hb o e=>?_) hS2 ⟨λe he=>?_,λj q hj hq=>?_⟩ λh3 tO L3 HB HC HD=>?_⟩
   ·rw[HE.2 b (λh:b=S=>wR (by rw[<- h];exact hb))];exact e
   ·rw[HE.2 b (Qp b hb).2];exact e
   ·have Hj:=pm.mem_iff.mp (i8.mpr ⟨e,he,rfl⟩);obtain z|z:=ff.mp Hj
    ·exact⟨i,a,p,ae7 i,ha,hp,z⟩
    ·obtain⟨e',jW,ee⟩:=i8.mp z;obtain⟨j,a',q,hj,h4,h5,h6⟩:=hA.src e' jW;exact⟨j,a',q,'O',h4,h5,by rw[<- ee,h6]⟩
   ·have mem:∀z,z∈L2.map (·.2.1)↔z=hP p\/z∈L.map (·.2.1):=λz=>by
     have:=(pm.map (·.1)).mem_iff (a:=z);rw[i4,JJ,ff,i4]at this;exact this
    rw[mem];obtain z|z:=EM j i
    ·exact .inr (hA.all j q z hq)
    ·have:j=i:='O'
     subst this;rw[hp]at hq;cases hq;exact .inl rfl
   ·exact hR h3 tO L3 (λb o hb qV e=>HB b o hb qV (by
     rw[HE.2 b qV];exact hm b o hb e)) HC HD
end
section
variable {A:Around}
theorem VM (e:h.get? a=some (L2.td b)):iW b h a []:=
 ⟨_,_,_,e,⟨rfl,rfl,rfl⟩,rfl,⟨rfl,rfl,rfl,rfl,(.inl rfl),(show 0*5<7*3 by decide),.nil,(λe h=>nomatch h),.nil,λe h=>nomatch h⟩⟩
theorem Wj {Q:vn->adX->Prop}(hh:A.handled=none)(hu:A.units+4<cLine)(hl:s.heap.IsList l (as.map Value.ref).toArray)(kX:nO s.heap as ps)(hS:s.heap.get? S=some (L2.td led))(hlS:l≠S)(haS:∀a∈as,a≠S)(h:∀h' tk L,(∀b o,b≠S->s.heap.get? b=some o->h'.get? b=some o)->iW led h' S L->Acc as ps as.length L->Q .none {s with heap:=h',toks:=tk}):
  wpAny (model prog w) A.in1 (Builtin.«set.__init__» ⟨[.ref S,.ref l],[]⟩) (λfin s'=>∃r,fin=.done (.ret r)/\Q r s') E s:=by
 obtain⟨ol,tP,wu,nl,hdl⟩:_:=id hl;obtain⟨adR,adL,adM,adK⟩:=ol;subst wu;subst hdl;have adS:=F.sub_list_set;have adT:=F.sub_list_frozenset;unfold Builtin.«set.__init__» noKeywords Builtin.Frozenset.updateFrom;generalize hPI:pyIter=PI;obtain⟨h0,g0,d0,t0,o0⟩:=s
 wp_walk
 subst hPI;refine afO hl ?_;refine ar (wpAny_runValue ?_);have hh3:A.in1.in1.handled=none:=by simp[hh]
 have ac7:=AN (nt tP);have wU:=AN (nt hS);have cT:(as.map Value.ref).toArray.size=as.length:=by grind
 have aI:∀a∈as,a≠h0.objs.size:=λa ha=>by
  obtain⟨j,hj,ej⟩:=DO ha;obtain⟨o,_,_,_,ho,_⟩:_:=kX.wQ j a _ (by grind) (ab (by rw[kX.len];exact hj));exact AN (nt ho)
 refine Wi (led:=led) (ps:=ps) (Walks.list hh3 h0.objs.size l ac7 (as.map Value.ref).toArray) S (by grind) (by grind) cT (λi v hv=>?_) (λa ha=>⟨by grind,haS a ha⟩) _ 0 _ [] rfl (AM _) ?_ (kX.at λa ha o e=>mf _ e) ?_ ⟨(λe h=>nomatch h),λj p h=>nomatch h⟩ λh' tk L hk ik tQ=>?_
 ·grind
 ·exact⟨⟨_,BS _ rfl,rfl,rfl⟩,hl.push _⟩
 ·exact VM (b:=led) (mf _ hS)
 ·refine wpAny_pure ?_;rw[cT]at tQ;refine wpAny_pure ⟨_,rfl,h h' tk L (λb o hb e=>hk b o ?_ hb (mf _ e)) ik tQ⟩
  simp_all [AN,nt]
set_option maxHeartbeats 3200000 in
theorem Wk (hh:A.handled=none)(hu:A.units+8<cLine)(hl:s.heap.IsList l (as.map Value.ref).toArray)(kX:nO s.heap as ps)(h:∀(h':Heap) (tk:Nat) (L:List Ent),iW (!w.params.followText "set-order") h' s.heap.objs.size L->Acc as ps as.length L->(∀b o,s.heap.get? b=some o->h'.get? b=some o)->Q (.ref s.heap.objs.size) {s with heap:=h',toks:=tk}):
  wpAny (model prog w) A (call (.type "set") [.ref l]) Q E s:=by
 obtain⟨c,tl,adU⟩:=aen.mro;have adN:=aen.made;have ac1:=aen.sub;refine wpAny_call (codeAny_of_tree ?_);show wpAny _ _ (callAny (.type "set") _) _ _ _;refine wpAny_pure ⟨Code.quiet_builtin _ 'W',aeN F.entry_type_call ?_⟩;rw[Around.under_plain (weight_type_call_type "set" [.ref l] []) rfl];have h1:=aen.notType;have h2:=aen.canCreate;have hct:=F.typeCall_set_1 (.ref l)
 repeat (any_goals (first|assumption|wp_step))
 refine ae6 (L2.Xa (.ref l) (E:=E) (Q₁:=λobj bz=>obj=.ref s.heap.objs.size/\bz={s with heap:=s.heap.push (L2.td (!w.params.followText "set-order"))}) ⟨rfl,rfl⟩) λr bz hr=>?_
 cases r with
 |error e=>exact hr
 |ok fl=>
  cases fl with
  |ret obj=>
   obtain⟨rfl,rfl⟩:=hr;have hS:(s.heap.push (L2.td (!w.params.followText "set-order"))).get? s.heap.objs.size=some (L2.td (!w.params.followText "set-order")):=BS _ rfl;have hT:Shared.TypeIs {s with heap:=s.heap.push (L2.td (!w.params.followText "set-order"))} (.ref s.heap.objs.size) "set":=⟨_,hS,rfl⟩
   have qP:=aen.init.lookup;have hbi:=aen.init.bind (.ref s.heap.objs.size)
   repeat (any_goals (first|assumption|wp_step))
   refine ae6 (codeAny_call_builtin (R:=wants (λr pW=>r=.none/\∃h' tk L,pW={s with heap:=h',toks:=tk}/\iW (!w.params.followText "set-order") h' s.heap.objs.size L/\Acc as ps as.length L/\(∀b o,s.heap.get? b=some o->h'.get? b=some o)) E)
    aen.init.plain F.entry_set_init (check_set_init_1 hT ?_)) λac8 pW Fj=>?_
   ·refine afn (Wj (A:=A.in1) (ps:=ps) (by simp[hh]) (by show A.units+1+4<cLine;lia) (hl.push _) (kX.at λa ha o e=>mf _ e) hS ?_ (λa ha=>?_) (Q:=λr pW=>r=.none/\∃h' tk L,pW={s with heap:=h',toks:=tk}/\iW (!w.params.followText "set-order") h' s.heap.objs.size L/\Acc as ps as.length L/\(∀b o,s.heap.get? b=some o->h'.get? b=some o)) λh' tk L hk ik tQ=>?_) (λfin s' x=>?_) λe s' x=>x
    ·obtain⟨ol,tP,_⟩:=hl;exact AN (nt tP)
    ·obtain⟨j,hj,ej⟩:=DO ha;obtain⟨o,_,_,_,ho,_⟩:=kX.wQ j a _ (by rw[ab hj,ej]) (ab (by rw[kX.len];exact hj));exact AN (nt ho)
    ·exact⟨rfl,h',tk,L,rfl,ik,tQ,λb o e=>hk b o (AN (nt e)) (mf _ e)⟩
    ·obtain⟨r,rfl,x⟩:=x;exact x
   ·cases ac8 with
    |error e=>exact Fj
    |ok acj=>
     cases acj with
     |ret r=>
      obtain⟨rfl,h',tk,L,rfl,ik,tQ,tK⟩:=Fj
      repeat (any_goals (first|assumption|wp_step))
      exact h _ _ L ik tQ tK
     |_=>exact Fj.elim
  |_=>exact hr.elim
end
def kq (w:agd)(a:adV)(ep:Nat)(L:List Ent):List (Int×vn):=if w.params.followText "set-order" then (pickOrder (w.params.setOrder a ep) (L.map (·.2)).toArray).toList else L.map (·.2)
theorem uc (w:agd)(a:adV)(ep:Nat)(L:List Ent):(kq w a ep L).Perm (L.map (·.2)):=by
 unfold kq;split
 ·exact(L2.Xb _ _).trans 'Y'
 ·rfl
def slotAt (b:Bool)(L:List Ent):Nat->Nat
 |0=>0
 |i+1=>if b then 0 else (L.map (·.1)).getD i 0+1
def mR (h:Heap)(it a:adV)(slot i n ep:Nat):Prop:=∃o,h.get? it=some o/\o.cls=.type "set_iterator"/\o.data=.fields #[.int slot 0,.int i 0,.ref a,.int n 0,.int ep 0]
def jT (led:Bool)(h:Heap)(a:adV)(L:List Ent)(ep:Nat):Prop:=
 ∃o t,h.get? a=some o/\o.ExactSet/\o.data=.set (L.map (·.2)).toArray ep t/\Tb led t L/\t.fits (L.map (·.2)).toArray.size=true
theorem jT.at (x:jT led h a L ep)(e:∀o,h.get? a=some o->h'.get? a=some o):jT led h' a L ep:=
 by obtain⟨o,t,ho,r⟩:=x;exact⟨o,t,e o ho,r⟩
theorem mR.at {it:adV}(x:mR h it a slot i n ep)(e:∀o,h.get? it=some o->h'.get? it=some o):mR h' it a slot i n ep:=
 by obtain⟨o,ho,r⟩:=x;exact⟨o,e o ho,r⟩
theorem mR.typeIs {s:adX}{it:adV}(x:mR s.heap it a slot i n ep):s.TypeIs (.ref it) "set_iterator":=
 by obtain⟨o,ho,hc,_⟩:=x;exact⟨o,ho,hc⟩
theorem jT.typeIs {s:adX}(x:jT led s.heap a L ep):s.TypeIs (.ref a) "set":=
 by obtain⟨o,t,ho,hc,_⟩:=x;exact⟨o,ho,hc.1⟩
theorem Wl (up:(L.map (·.1)).Pairwise (· < ·))(hi:i<=L.length):SetTable.below (L.map (·.1)).toArray (slotAt false L i)=i:=by
 have key:=λp q hp hq h=>OP.mp up p q hp hq h
 have hl:(L.map (·.1)).length=L.length:=aa ..;refine L2.Ca (by rw[Cn,hl];exact hi) (λq h1 h2=>?_) (λq h1 h2=>?_)
 ·rw[L2.getD_list,ir,ab h2];cases i with
  |zero=>lia
  |succ i=>
   have iL:i<(L.map (·.1)).length:='O'
   show _<(L.map (·.1)).getD i 0+1;rw[ir,ab iL];show(L.map (·.1))[q]<(L.map (·.1))[i]+1;obtain h|h:=EM q i
   ·have:=key q i h2 iL h;lia
   ·have e:q=i:='O'
    subst e;lia
 ·rw[L2.getD_list,ir,ab h2];cases i with
  |zero=>
   show ¬(L.map (·.1))[q]<0;lia
  |succ i=>
   have iL:i<(L.map (·.1)).length:='O'
   show ¬_<(L.map (·.1)).getD i 0+1;rw[ir,ab iL];show ¬(L.map (·.1))[q]<(L.map (·.1))[i]+1;have:=key i q iL h2 'O';lia
section
theorem Yj (hs:jT (!w.params.followText "set-order") s.heap a L ep)(hQ:Q (.ref s.heap.objs.size) {s with heap:=s.heap.push {cls:=.type "set_iterator",data:=.fields #[.int (0:Nat) 0,.int (0:Nat) 0,.ref a,.int (L.length:Nat) 0,.int ep 0]}}):
  wpAny (model prog w) A (pyIter (.ref a)) Q E s:=by
 obtain⟨o,t,ho,hex,hd,T,hf⟩:_:=id hs;refine afS hs.typeIs PySem.F.slot_set_iter (Sm PySem.F.slot_set_iter hs.typeIs L2.Uu ?_ (PySem.F.args_set_iter_1 _));unfold Builtin.«frozenset.__iter__» Builtin.Frozenset.slot0 slotArgs;simp only[bind_assoc];refine ar (wpAny_pure ?_)
 try dsimp only
 refine ar (wpAny_pure ?_);refine ar (ar (afu ho hd hf (wpAny_pure ?_)));refine ar (ar (OK ho hd hf ?_));refine ar (ar (aeA (wpAny_pure ?_)));refine wpAny_pure ?_;refine RI (λck=>?_) (λ_=>?_)
 ·exfalso;rw[Lo]at ck;have h2:(!t.plain&&decide ((L.map (·.2)).toArray.size>1))=true:=ck.2;rw[T.plain]at h2;cases h2
 ·refine ar (wpAny_pure ?_);refine ar (wpAny_setEpoch_of ho hd hf ?_);refine ar (SO (wpAny_pure ⟨_,rfl, "set_iterator",_,⟨_,BS _ rfl,rfl⟩,L2.rE.lookup,?_⟩));simpa [rawInt]using hQ
theorem Ki (hs:jT (!w.params.followText "set-order") s.heap a L ep)(hi:i<=L.length)(hQ:Q ((kq w a ep L)[i]?.map λe=>(e.2,slotAt (w.params.followText "set-order") L (i+1))) s):
  wpAny (model prog w) A (setNext a (slotAt (w.params.followText "set-order") L i) i ep) Q E s:=by
 obtain⟨o,t,ho,hex,hd,T,hf⟩:_:=id hs;refine ar (OK ho hd hf ?_);dsimp only;refine ar (ar (aeA (wpAny_pure ?_)));show wpAny _ _ (if w.params.followText "set-order"=true then _ else _) _ _ _;unfold kq at hQ;cases hb:w.params.followText "set-order" with
 |true=>
  rw[hb]at hQ;simp only[afR]at hQ ⊢;refine ar ?_;refine ar (OK ho hd hf ?_);refine ar (ar (aeA (wpAny_pure ?_)));show wpAny _ _ (if w.params.followText "set-order"=true then _ else _) _ _ _;rw[hb,uu rfl];refine ar (aeA (wpAny_pure ?_));refine wpAny_pure ?_;have e0:∀i,slotAt true L i=0:=λi=>by cases i<;>rfl
  rw[e0,DD]at hQ;rw[e0];exact hQ
 |false=>
  rw[hb]at hQ T;rw[rf AL];simp only[afA,↓reduceIte]at hQ;refine RI (λck=>?_) (λ_=>?_)
  ·exfalso;have h2:(!t.plain&&decide ((L.map (·.2)).toArray.size>1))=true:=ck;rw[T.plain]at h2;cases h2
  ·have hl:=T.led;have tR:∀{Q':Unit->adX->Prop},Q' () s->wpAny (model prog w) A (if(!t.led && !(L.map (·.2)).toArray.isEmpty)=true then unsupported "set:maker-not-led" else pure ()) Q' E s:=λhq=>by
    rw[rf (by rw[hl];exact AL)];exact wpAny_pure hq
   refine ar (tR ?_);rw[T.place,Wl T.up hi];obtain h|h:=EM i L.length
   ·have e1:(L.map (·.2)).toArray[i]?=some L[i].2:=by
     rw[Of,l8,ab h]
     rfl
    have e2:(L.map (·.1)).toArray[i]?=some L[i].1:=by
     rw[Of,l8,ab h]
     rfl
    have e3:(L.map (·.2))[i]?=some L[i].2:=by rw[<- Of];exact e1
    have e4:slotAt false L (i+1)=L[i].1+1:=by
     show(L.map (·.1)).getD i 0+1=_;rw[ir,l8,ab h]
     rfl
    rw[e1,e2];rw[e3,e4]at hQ;exact wpAny_pure hQ
   ·have e1:(L.map (·.2)).toArray[i]?=none:=by
     rw[Of,afM,aa];exact h
    have e3:(L.map (·.2))[i]?=none:=by rw[<- Of];exact e1
    rw[e1];rw[e3]at hQ;exact wpAny_pure hQ
theorem Uk {it:adV}(hit:mR s.heap it a (slotAt (w.params.followText "set-order") L i) i L.length ep)(hs:jT (!w.params.followText "set-order") s.heap a L ep)(hx:(kq w a ep L)[i]?=some e)(i6:a≠it)(hQ:∀h',mR h' it a (slotAt (w.params.followText "set-order") L (i+1)) (i+1) L.length ep->Heap.SameBut it s.heap h'->Q (some e.2) {s with heap:=h'}):
  wpAny (model prog w) A (pyNext (.ref it)) Q E s:=by
 obtain⟨o,ho,hc,hd⟩:_:=id hit;obtain⟨os,t,HF,ac9,HG,T,hf⟩:_:=id hs;have hi:i<L.length:=by
  have:=(gz.mp hx).1;rw[(uc w a ep L).length_eq,aa]at this;omega
 refine ar (afl (aeb hit.typeIs L2.rE
  (Sm L2.rE hit.typeIs L2.IX ?_ (L2.Jb _))))
 refine ar (wpAny_pure ?_);refine ar (ae5 ho hd ?_);refine ar (afu HF HG hf ?_);rw[rf 'J'];dsimp [BY];refine ar (Ki hs (aeF hi) ?_);rw[hx];refine ar (wpAny_setField ho hd 'Y' ?_);have wM:(s.heap.update it (Obj.mapFields (·.setIfInBounds 0 (rawInt ((slotAt (w.params.followText "set-order") L (i+1))))))).get? it=some _:=NG _ ho (Obj.isFreed_of_fields (ad0 hd _));refine ar (wpAny_setField wM (ad0 hd _) 'Y' ?_);refine wpAny_pure ⟨_,rfl,wpAny_pure (hQ _ ?_ ?_)⟩
 ·refine⟨_,NG _ wM (Obj.isFreed_of_fields (ad0 (ad0 hd _) _)),?_,?_⟩
  ·rw[Obj.cls_mapFields,Obj.cls_mapFields,hc]
  ·rw[ad0 (ad0 hd _)]
   rfl
 ·exact(Pc ..).trans (Pc ..)
theorem Uv {it:adV}(hh:A.handled=none)(hit:mR s.heap it a (slotAt (w.params.followText "set-order") L i) i L.length ep)(hs:jT (!w.params.followText "set-order") s.heap a L ep)(hi:i=L.length)(hQ:∀h',Heap.ExtBut it s.heap h'->Q none {s with heap:=h'}):wpAny (model prog w) A (pyNext (.ref it)) Q E s:=by
 obtain⟨o,ho,hc,hd⟩:_:=id hit;obtain⟨os,t,HF,ac9,HG,T,hf⟩:_:=id hs;refine ar (afl (aeb hit.typeIs L2.rE
  (Sm L2.rE hit.typeIs L2.IX ?_ (L2.Jb _))))
 refine ar (wpAny_pure ?_);refine ar (ae5 ho hd ?_);refine ar (afu HF HG hf ?_);rw[rf 'J'];dsimp [BY];refine ar (Ki hs (af5 hi) ?_);rw[show(kq w a ep L)[i]?=none by rw[afM,(uc w a ep L).length_eq,aa,hi];exact br _];refine ar (wpAny_setField ho hd 'Y' ?_);refine ar ?_;refine ar (SO ?_ (by size_fits));refine ar (aeD (by first|rfl|(simp[firstArgMember];rfl)) ?_);refine SO ?_ (by size_fits);refine ar (wpAny_handled ?_);rw[hh];refine ar (wpAny_pure (wpAny_throw ?_));refine ar (afa ⟨_,BS _ rfl,rfl⟩ isSubtype_stop ?_);exact wpAny_pure (hQ _ (((Pc ..).extBut.push _).push _))
theorem Xg (hh:A.handled=none)(i6:a≠I):
  Walks prog w A I [I,a] [I] L.length (λi v=>∃x,(kq w a ep L)[i]?=some (x,v)) (λi h=>mR h I a (slotAt (w.params.followText "set-order") L i) i L.length ep/\jT (!w.params.followText "set-order") h a L ep) where
 sub:=λb hb=>'J'
 frame:=λ_ _ _ st hk=>⟨st.1.at λo e=>hk I 'Y' o e,st.2.at λo e=>hk a 'Y' o e⟩
 item:=λi s Q E hi st hQ=>by
  have hl:i<(kq w a ep L).length:=by rw[(uc w a ep L).length_eq,aa];exact hi
  obtain⟨⟨x,v⟩,hx⟩:∃p,(kq w a ep L)[i]?=some p:=⟨_,ab hl⟩
  refine Uk st.1 st.2 hx i6 λh' ada tM=>?_
  exact hQ v h' s.toks ⟨x,hx⟩ ⟨ada,st.2.at λo e=>tM.extBut a o i6 e⟩ λb o hb e=>tM.extBut b o (λh=>hb (by simp[h])) e
 done:=λs Q E st hQ=>Uv hh st.1 st.2 rfl λh' jW=>hQ h' s.toks λb o hb e=>jW b o (λh=>hb (by simp[h])) e
 self:=λi s Q E st hQ=>by
  refine afS st.1.typeIs L2.Jc (Sm L2.Jc st.1.typeIs L2.Ut ?_ (L2.UT _));exact wpAny_pure ⟨_,rfl, "set_iterator",_,st.1.typeIs,L2.rE.lookup,hQ⟩
theorem ZX:
  PySem.W.KdlSrc prog w "set" a a L.length (λi v=>∃x,(kq w a ep L)[i]?=some (x,v)) (λh=>jT (!w.params.followText "set-order") h a L ep) where
 type:=λ_ hm=>hm.typeIs
 there:=λ_ hm=>by obtain⟨_,_,ho,_⟩:_:=hm;exact⟨nt ho,nt ho⟩
 keep:=λ_ _ hm hk=>hm.at λo e=>hk a (.inl rfl) o e
 notList:='Q'
 notTuple:='Q'
 hint:=λ_ _ _ _ hm hq=>L2.Yb hm.typeIs hq
 iter:=λ_ _ hh hm=>⟨_,_,(λ_ _ hq=>Yj hm hq),Xg hh (by obtain⟨_,_,ho,_⟩:=hm;exact AN (nt ho)),⟨⟨_,BS _ rfl,rfl,rfl⟩,hm.at λo e=>mf _ e⟩⟩
end
end Ts
namespace L2
open PySem PySem.Spec PyProof.Rows
def qW (x y:LI):Prop:=So.lexLt y x=false
def lR (ds:LL):LL:=ds.mergeSort λa b=>!So.lexLt b a
theorem uh (ds:LL):(lR ds).Perm ds:=List.mergeSort_perm ..
theorem ZY (ds:LL):(lR ds).Pairwise qW:=by
 have:=List.pairwise_mergeSort (le:=λa b:LI=>!So.lexLt b a) (λa b c h1 h2=>by
  cases h:So.lexLt c a with
  |false=>rfl
  |true=>
   obtain z|z:=So.Ee c b a h
   ·simp_all
   ·simp_all) (λa b=>by
  simp[af7];cases h:So.lexLt b a with
  |false=>exact .inl rfl
  |true=>
   right
   cases z:So.lexLt a b with
   |false=>rfl
   |true=>
    have:=So.Ed a b a z h;rw[So.Di]at this;cases this) ds
 exact this.imp λh=>by simpa [qW]using h
theorem Jq {b:LL}(p:a.Perm b)(ha:a.Pairwise qW)(hb:b.Pairwise qW):a=b:=List.Perm.eq_of_pairwise (λx y _ _ h1 h2=>So.Dj x y h2 h1) ha hb p
abbrev dT (d:LI):Dv:=.tup (d.map di)
theorem Dn:∀{as:List adV} {its:List vn},Vals (as.map V.ref) its->its=as.map Value.ref
 |[],_,r=>by cases r;rfl
 |a::as,_,r=>by
  cases r with
  |cons h t=>cases h;rw[Dn t];rfl
structure HH (K:Frag) (H:Hp) (as:List adV) (ds:LL):Prop where
 len:as.length=ds.length
 at_:∀(j:Nat) (a:adV) (d:LI),as[j]?=some a->ds[j]?=some d->cS K H a (d.map V.int)
theorem Dp {K:Frag}:∀{ds:LL} {ys:List V},aH K G (ds.map dT) ys->∃as,ys=as.map V.ref/\HH K G as ds
 |[],_,h=>by cases h;exact⟨[],rfl,rfl,λj a d h=>nomatch h⟩
 |d::ds,_,h=>by
  obtain⟨y,ys,rfl,⟨a,vs,rfl,h1,h2⟩,h3⟩:_:=h;obtain⟨as,rfl,T⟩:=Dp h3;have:=mH h2;subst this;refine⟨a::as,rfl,by rw[ID,ID,T.len],λj a' d' e1 e2=>?_⟩;cases j with
  |zero=>cases e1;cases e2;exact h1
  |succ j=>exact T.at_ j a' d' e1 e2
theorem CI {K:Frag}:∀{qs:List (adV×LI)},(∀q∈qs,cS K G q.1 (q.2.map V.int))->aH K G (qs.map λq=>dT q.2) (qs.map λq=>V.ref q.1)
 |[] => λ_=>rfl
 |q::qs=>λh=>⟨_,_,rfl,⟨q.1,_,rfl,h q (WS ..),j9⟩,CI λx hx=>h x (Na _ hx)⟩
section
variable {σ:St}
theorem Dq (I:Inv X pins σ H s)(h:cS X.K H a (d.map V.int)):So.eI s.heap (.ref a)=some d:=by
 obtain⟨its,r,p,_⟩:_:=I.tuple h;exact So.Ny p (intsAre_of r)
def abk (K:Frag):List V->Hp->VK->Prop:=λxs H Q=>∃(p:adV) (as:List adV) (ds:LL),xs=[.ref p]/\aM K H p (as.map V.ref)/\HH K H as ds/\(∀d∈ds,d≠[])/\ds.length<128 /\
  ∀(l:adV) (qs:List (adV×LI)),H l=none->qs.Perm (as.zip ds)->(qs.map (·.2)).Pairwise qW->Q (.ref l) (upd H l (.lst (qs.map λq=>.ref q.1)))
theorem abl {as:List adV}{ds:LL}{kd:adV->LI}(hl:as.length=ds.length)(h:∀(j:Nat) a d,as[j]?=some a->ds[j]?=some d->kd a=d):as.zip ds=as.map λa=>(a,kd a):=by
 refine OE λi=>?_
 rw[l8];obtain hi|hi:=EM i as.length
 ·have iL:i<ds.length:='O'
  rw[ab hi,ab 'J',List.getElem_zip];show some (as[i],ds[i])=some (as[i],kd as[i]);rw[h i as[i] ds[i] (ab hi) (ab iL)]
 ·simp_all
theorem Vp:eY X (.builtin "sorted") (abk X.K):=by
 intro pins s σ H xs us Q I r h;obtain⟨p,as,ds,rfl,hq,T,ne,hz,q⟩:_:=h;obtain⟨u,rfl,rx⟩:=vals1 r;cases rx;obtain⟨its,rv,pl,gD⟩:_:=I.list hq;have:=Dn rv;subst this;have big:=cw;have hl:=T.len;obtain⟨kd,Ay⟩:∃kd,kd=λa=>So.qc s.heap (.ref a):=⟨_,rfl⟩
 have wV:∀(j) (a) (d),as[j]?=some a->ds[j]?=some d->kd a=d:=λj a d e1 e2=>by
  rw[Ay];show(So.eI s.heap (.ref a)).getD []=d;rw[Dq I (T.at_ j a d e1 e2)];rfl
 refine So.VJ pl.isList (λv hv=>?_) (by rw[aa];lia) λout p1 p2=>?_
 ·obtain⟨a,ha,rfl⟩:=i8.mp hv;obtain⟨j,hj,ej⟩:=DO ha;have e1:as[j]?=some a:=by rw[ab hj,ej]
  have e2:ds[j]?=some (ds[j]'(by lia)):=ab 'O';have k:=Dq I (T.at_ j a _ e1 e2);cases hd:ds[j]'(by lia)with
  |nil=>exact absurd hd (ne _ (aeg _))
  |cons n ns=>exact⟨n,ns,by rw[k,hd]⟩
 ·obtain⟨bs,pm,eo⟩:_:=Cg p1;obtain⟨e,he⟩:=sortedAll_at s.heap (as.map Value.ref) out;have hb:=pm.length_eq;have fin:=q (s.heap.objs.size+1) (bs.map λa=>(a,kd a)) (I.aL.fresh (ad8 _)) (by rw[abl hl wV];exact pm.map _) (by
   rw[i4,OF];unfold So.qd at p2;rw[eo,OF]at p2;refine p2.imp λ{x y} z=>?_
   rw[Ay];exact z)
  rw[i4]at fin;refine⟨.ref (s.heap.objs.size+1),_,I.laid (t':=s.toks) (λb o e=>sortedAll_old e) (ad8 _) ?_,rfl,fin⟩;exact⟨by rw[aa];lia,out.toList,e,by rw[eo];exact Ci bs,by exact he⟩
end
abbrev lP (p:Nat×Nat):LI:=[(p.1:Int),(p.2:Int)]
section
variable {σ:St}
theorem abm (I:Inv X pins σ H s)(h:cS X.K H a ((lP p).map V.int)):Ts.gE s.heap p a:=by
 obtain⟨its,r,⟨o,h1,h2,n,h3⟩,_⟩:_:=I.tuple h;cases r with
 |cons e1 r=>
  cases r with
  |cons e2 r=>
   cases r
   obtain⟨t,rfl⟩:=e1;obtain⟨u,rfl⟩:=e2;exact⟨o,n,t,u,h1,h2,h3⟩
def zC (w:agd)(l:adV)(L:List Ts.Ent):HO:=.ext λh=>Ts.iW (!w.params.followText "set-order") h l L
def Ph (K:Frag)(w:agd):List V->Hp->VK->Prop:=λxs H Q=>∃(p:adV) (as:List adV) (ps:List (Nat×Nat)),xs=[.ref p]/\aM K H p (as.map V.ref)/\HH K H as (ps.map lP)/\(∀p∈ps,p.1<=6/\p.2<=6) /\
  ∀l L,H l=none->Ts.Acc as ps as.length L->(L.map (·.2.1)).Nodup->L.length<=49->Q (.ref l) (upd H l (zC w l L))
theorem Xh (hc:X.calm=true)(hu:X.A.units+64<cLine):eY X (.type "set") (Ph X.K X.w):=by
 intro pins s σ H xs us Q I r h;obtain⟨p,as,ps,rfl,hq,T,sm,q⟩:_:=h;obtain⟨u,rfl,rx⟩:=vals1 r;cases rx;obtain⟨its,rv,pl,_⟩:_:=I.list hq;have:=Dn rv;subst this;have hP:Ts.nO s.heap as ps:=⟨by rw[T.len,aa],sm,λj a p e1 e2=>abm I (T.at_ j a _ e1 (by rw[l8,e2];rfl))⟩
 refine Ts.Wk (I.ok.hd hc) 'O' pl.isList hP λh' tk L hs hA kp=>?_
 have nd:(L.map (·.2.1)).Nodup:=by obtain⟨_,_,_,_,_,_,T⟩:_:=id hs;exact T.nd
 refine⟨.ref s.heap.objs.size,_,I.laid (t':=tk) kp (br _) ?_,rfl,q _ L (I.aL.fresh (br _)) hA nd (hA.len hP nd)⟩;refine⟨hs,?_,λh1 h2 x e=>x.at e⟩;obtain⟨o,_,_,ho,_⟩:_:=hs;exact⟨o,ho⟩
def NF (K:Frag)(w:agd):List V->Hp->VK->Prop:=λxs H Q=>∃(p:adV) (L:List Ts.Ent) (rs:List (adV×(Nat×Nat))),xs=[.ref p]/\H p=some (zC w p L)/\L.map (·.2.2)=rs.map (λr=>Value.ref r.1)/\(∀r∈rs,cS K H r.1 ((lP r.2).map V.int))/\rs.length<128 /\
  ∀(l:adV) (qs:List (adV×LI)),H l=none->qs.Perm (rs.map λr=>(r.1,lP r.2))->(qs.map (·.2)).Pairwise qW->Q (.ref l) (upd H l (.lst (qs.map λq=>.ref q.1)))
theorem Vq (hc:X.calm=true):eY X (.builtin "sorted") (NF X.K X.w):=by
 intro pins s σ H xs us Q I r h;obtain⟨p,L,rs,rfl,hp,hL,hr,hz,q⟩:_:=h;obtain⟨u,rfl,rx⟩:=vals1 r;cases rx;have hS:=(I.aL p _ hp).1;obtain⟨o,t,ep,h1,h2,h3,h4⟩:_:=hS;have hE:Ts.jT (!X.w.params.followText "set-order") s.heap p L ep:=⟨o,t,h1,h2,h3,h4,h4.fits⟩
 have big:=cw;have Ll:L.length=rs.length:=by
  have:=congrArg List.length hL;rw[aa,aa]at this;exact this
 have tup:=λr qX=>Dq I (hr r qX)
 refine Calls.call_function_entry kind_sorted plain_sorted entry_sorted (args_sorted1 _) ?_;refine ar (wpAny_pure ?_);refine ar (PySem.W.kdu_collect (Ts.ZX) (I.ok.hd hc) hE 'O' λh' tk acc hk dS=>?_);have ha:acc.toList.length=L.length:=by rw[NO,dS.1]
 have Gh:acc.toList=(Ts.kq X.w p ep L).map (·.2):=by
  apply OE;intro j;obtain hj|hj:=EM j acc.toList.length
  ·obtain⟨x,hx⟩:=dS.2 j acc.toList[j] (by rw[<- DD];exact ab hj);rw[ab hj,l8,hx]
   rfl
  ·rw[Mc hj,Mc (by rw[aa,(Ts.uc X.w p ep L).length_eq,aa,<- ha];exact hj)]
 have pv:acc.toList.Perm (rs.map λr=>Value.ref r.1):=by
  rw[Gh,<- hL];have:=(Ts.uc X.w p ep L).map (·.2);rw[i4]at this;exact this
 have pv':acc.toList.Perm ((rs.map (·.1)).map Value.ref):=by rw[i4];exact pv
 obtain⟨ks,pk,ea⟩:_:=Cg pv';have known:∀a∈ks,∃r∈rs,r.1=a:=λa hm=>by
  obtain⟨r,h1,h2⟩:=i8.mp (pk.mem_iff.mp hm);exact⟨r,h1,h2⟩
 refine ar (wpAny_newList ?_ (by rw[ha];lia));have oI:(h'.push (seqObj "list" acc.toList.toArray 0)).get? h'.objs.size=some (seqObj "list" acc.toList.toArray 0):=BS _ rfl;have Fl:∀v ns,So.eI s.heap v=some ns->So.eI (h'.push (seqObj "list" acc.toList.toArray 0)) v=some ns:=λv ns e=>So.CH e λt o _ ht _=>mf _ (hk t o ht)
 refine ar (Po (Sm slot_list_sort ⟨_,oI,rfl⟩ entry_list_sort (So.IY oI (λv hv=>?_) (by rw[ha];lia) λout p1 p2=>⟨_,rfl,wpAny_pure ⟨_,rfl,?_⟩⟩) (args_list_sort _)))
 ·rw[ea]at hv;obtain⟨a,hm,rfl⟩:_:=i8.mp hv;obtain⟨r,qX,rfl⟩:_:=known a hm;exact⟨_,_,Fl _ _ (tup r qX)⟩
 ·rw[ea]at p1;obtain⟨bs,pm,eo⟩:_:=Cg p1;obtain⟨e,heL⟩:=sortedHeap_at (out:=out) oI;have I1:=I.kept (t':=tk) hk;obtain⟨kd,Ay⟩:∃kd,kd=λa=>(So.eI s.heap (.ref a)).getD []:=⟨_,rfl⟩
  have wV:∀r∈rs,kd r.1=lP r.2:=λr qX=>by rw[Ay];show(So.eI s.heap (.ref r.1)).getD []=_;rw[tup r qX];rfl
  have lt:bs.length=rs.length:=by rw[pm.length_eq,pk.length_eq,aa]
  have fin:=q h'.objs.size (bs.map λa=>(a,kd a)) (I1.aL.fresh (br _)) (by
   have:=(pm.trans pk).map λa=>(a,kd a)
   rw[i4]at this;refine this.trans (aeQ (List.map_congr_left λr qX=>?_));show(r.1,kd r.1)=_;rw[wV r qX]) (by
   rw[i4,OF];unfold So.qd at p2;rw[eo,OF]at p2;refine p2.imp_of_mem λ{x y} hx hy z=>?_
   obtain⟨rx,RA,rfl⟩:=known x (pm.mem_iff.mp hx);obtain⟨ry,RB,rfl⟩:=known y (pm.mem_iff.mp hy);unfold So.qc at z;rw[Fl _ _ (tup rx RA),Fl _ _ (tup ry RB)]at z;show So.lexLt (kd ry.1) (kd rx.1)=false;rw[wV rx RA,wV ry RB];exact z)
  rw[i4]at fin;refine⟨.ref h'.objs.size,_,I1.laid (t':=tk) (λb o eb=>?_) (br _) ?_,rfl,fin⟩
  ·have lt:=nt eb;rw[sortedHeap_old (AN lt) (by rw[size_push'];exact aer lt),YU _ _ _ (AN lt)];exact eb
  ·refine⟨by rw[aa];lia,out.toList,e,?_,by rw[aff];exact heL⟩;rw[eo];exact Ci bs
end
def kC (ps:List (Nat×Nat)):List (Nat×Nat):=Ts.nj.filter λp=>ps.contains p
theorem ZZ:(Ts.nj.map lP).Pairwise qW:=by
 have key:((Ts.nj.map lP).Pairwise λx y=>So.lexLt y x=false):='W'
 exact key
theorem Z0:Ts.nj.Nodup:='W'
theorem Kj:p∈Ts.nj↔p.1<=6/\p.2<=6:=by
 constructor
 ·intro h;obtain⟨a,ha,h⟩:=aeB.mp h
  grind
 ·intro h;exact aeB.mpr ⟨p.1,l9.mpr 'O',i8.mpr ⟨p.2,l9.mpr 'O',rfl⟩⟩
section
variable {F:aS ι}{pos:Pos}
theorem VN (hm:F.mg "sorted"=none)(i7:F.mg "set"=none)(ha:Ev F a ρ ta)(ea:er ta=.lst ((ps.map lP).map dT))(sm:∀p∈ps,p.1<=6/\p.2<=6){p1 p2 kz:Pos}(hg:∀i,Gl (F.cx i) "sorted":=by intro _;rfl)(jF:∀i,Gl (F.cx i) "set":=by intro _;rfl)(hs:∀i,starEach [a] (F.cx i).env=[(false,eval a (F.cx i).env)]:=by intro _;rfl)(dq:∀i,starEach [.Call (.Name "set" p2) [a] [] kz] (F.cx i).env=[(false,eval (.Call (.Name "set" p2) [a] [] kz) (F.cx i).env)]:=by intro _;rfl):
  Ev F (.Call (.Name "sorted" p1) [.Call (.Name "set" p2) [a] [] kz] [] pos) ρ (.ow (((kC ps).map lP).map λd=>.fz (dT d))):=by
 obtain⟨τ,p,q⟩:_:=ha.use;refine⟨lZ (NF F.K F.w) (dH (lZ (Ph F.K F.w) (dH τ d8)) d8),λi=>um (F.hK i▸F.hw i▸Vq (F.calm i)) (hg i) ((F.hm i).symm▸hm) B3 (cm (xS (F.hK i▸F.hw i▸Xh (F.calm i) (F.hr i).units) (jF i) ((F.hm i).symm▸i7) Nf (cm (p i) cR (hs i)) 'Q' 'Q' (hs i) rfl) cR (dq i)) 'Q' 'Q' (dq i) rfl,λσ G H Q s rr k=>q σ G H _ s rr λv G1 H1 s1 hx=>?_⟩;rw[ea]at hx;obtain⟨l,ys,rfl,h1,h2⟩:_:=hx;obtain⟨as,rfl,T⟩:_:=Dp h2;have pl:ps.length=as.length:=by rw[T.len,aa]
 refine⟨l,as,ps,rfl,s1.s.seq h1,⟨T.len,λj a d e1 e2=>aj.tup s1.s (T.at_ j a d e1 e2)⟩,sm,λl0 L oO hA nd hL=>?_⟩;have ex:∀e∈L,∃r:adV×(Nat×Nat),e.2=(Ts.hP r.2,Value.ref r.1)/\cS F.K G1 r.1 ((lP r.2).map V.int)/\r.2∈ps:=λe he=>by
  obtain⟨j,a,p,_,e1,e2,e3⟩:_:=hA.src e he;exact⟨(a,p),e3,T.at_ j a _ e1 (by rw[l8,e2];rfl),ba e2⟩
 obtain⟨rs,hrs⟩:∃rs:List (adV×(Nat×Nat)),L.map (·.2)=rs.map (λr=>(Ts.hP r.2,Value.ref r.1))/\∀r∈rs,cS F.K G1 r.1 ((lP r.2).map V.int)/\r.2∈ps:=by
  clear hA nd hL
  induction L with
  |nil=>exact⟨[],rfl,λr h=>nomatch h⟩
  |cons e L ih=>
   obtain⟨rs,i1,i2⟩:=ih λx hx=>ex x (Na _ hx)
   obtain⟨r,r1,r2⟩:=ex e (WS ..);refine⟨r::rs,by rw[JJ,JJ,i1,r1],λx hx=>?_⟩;obtain rfl|hx:=ff.mp hx
   ·exact r2
   ·exact i2 x hx
 obtain⟨wW,wX⟩:=hrs;have eh:L.map (·.2.1)=(rs.map (·.2)).map Ts.hP:=by
  have:=congrArg (List.map (·.1)) wW;rw[i4,i4]at this;rw[i4];exact this
 have ev:L.map (·.2.2)=rs.map (λr=>Value.ref r.1):=by
  have:=congrArg (List.map (·.2)) wW;rw[i4,i4]at this;exact this
 have rl:rs.length=L.length:=by
  have:=congrArg List.length ev;rw[aa,aa]at this;exact this.symm
 refine⟨l0,L,rs,rfl,bQ,ev,λr hr=>aj.tup (s1.s.trans (aj.new oO)) (wX r hr).1,'O',λl2 qs oK pm pw=>?_⟩;have k2:=k.step (s1.trans (Step.jR (o:=zC F.w l0 L) s1.s oO));have ndk:(rs.map (·.2)).Nodup:=by
  rw[eh]at nd;exact afh _ (λa b ck z=>ck (by rw[z])) nd
 have mem:∀x,x∈rs.map (·.2)↔x∈kC ps:=λx=>by
  unfold kC;rw[B0,Kj]
  constructor
  ·intro h;obtain⟨r,hr,rfl⟩:=i8.mp h;exact⟨sm _ (wX r hr).2,by simpa using (wX r hr).2⟩
  ·rintro⟨h1,h2⟩;have h2:x∈ps:=by simpa using h2
   obtain⟨j,hj,ej⟩:=DO h2;have:=hA.all j x 'O' (by rw[ab hj,ej]);rw[eh]at this;obtain⟨y,hy,e⟩:=i8.mp this;obtain⟨r,hr,rfl⟩:=i8.mp hy;have:=Ts.ND (sm _ (wX r hr).2) h1 e;rw[<- this];exact hy
 have pp:=(aat ndk (Z0.sublist List.filter_sublist)).mpr mem;have e2:qs.map (·.2)=(kC ps).map lP:=Jq (by
  refine(pm.map (·.2)).trans ?_;rw[i4];have:=pp.map lP;rw[i4]at this;exact this) pw (by
  refine ZZ.sublist ?_;exact List.Sublist.map _ List.filter_sublist)
 refine k2.lst (s1.s.trans (aj.new oO)) ?_ oK;rw[<- e2,i4];have:=(CI λq hq=>by
  have hq:=pm.mem_iff.mp hq;obtain⟨r,hr,rfl⟩:=i8.mp hq;exact(wX r hr).1).jD (H:=upd H1 l0 (zC F.w l0 L))
 rw[i4]at this;exact this
theorem Wm {ds:LL}(hm:F.mg "sorted"=none)(ha:Ev F a ρ ta)(ea:er ta=.lst (ds.map dT))(ne:∀d∈ds,d≠[])(hz:ds.length<128){p':Pos}(hg:∀i,Gl (F.cx i) "sorted":=by intro _;rfl)(hs:∀i,starEach [a] (F.cx i).env=[(false,eval a (F.cx i).env)]:=by intro _;rfl):Ev F (.Call (.Name "sorted" p') [a] [] pos) ρ (.ow ((lR ds).map λd=>.fz (dT d))):=
 rK (λi=>F.hK i▸Vp) hm B3 (ag ha ak hs) (λG H vs Q s hx k=>by
  obtain⟨x,rfl,dE⟩:=iA hx;rw[ea]at dE;obtain⟨l,ys,rfl,h1,h2⟩:=dE;obtain⟨as,rfl,T⟩:=Dp h2;refine⟨l,as,ds,rfl,s.seq h1,⟨T.len,λj a d e1 e2=>aj.tup s (T.at_ j a d e1 e2)⟩,ne,hz,λl2 qs oK pm pw=>?_⟩;have e2:=Jq ((pm.map (·.2)).trans (by rw[List.map_snd_zip (af5 T.len.symm)];exact(uh ds).symm)) pw (ZY ds);refine k.lst s ?_ oK;rw[<- e2,i4];have:=(CI λq hq=>by
   have hq:=pm.mem_iff.mp hq;obtain⟨j,hj,ej⟩:=DO hq;have e1:as[j]?=some q.1:=by grind
   have e3:ds[j]?=some q.2:=by grind
   exact T.at_ j q.1 q.2 e1 e3).jD (H:=H)
  rw[i4]at this;exact this) hg 'Q' 'Q' hs (by intro _;rfl)
end
theorem slot_lri_next:Slot "list_reverseiterator" "__next__" "list_reverseiterator.__next__":=
 .of (owner :="list_reverseiterator") (n :="__next__") 'X' 'W' 'W' 'W'
  (by first|exact .inl 'W'|exact .inr 'W') 'X'
theorem entry_lri_next:entryFor table "list_reverseiterator.__next__"=some Builtin.«list_reverseiterator.__next__»:=entryFor_of_tree (by kernel_rfl)
theorem owner_lri:Manifest.owners.lookup (String.ofList ['r', 'o', 't', 'a', 'r', 'e', 't', 'i', 'e', 's', 'r', 'e', 'v', 'e', 'r', '_', 't', 's', 'i', 'l'].reverse)=some Manifest.sig_list_reverseiterator:=by kernel_rfl
theorem Jd (a:vn):argsOk "list_reverseiterator.__next__" ⟨[a],[]⟩:=by
 unfold argsOk;rw[afY (n:=['_', '_', 't', 'x', 'e', 'n', '_', '_']) (by kernel_rfl) owner_lri];kernel_rfl
theorem slot_lri_iter:Slot "list_reverseiterator" "__iter__" "list_reverseiterator.__iter__":=
 .of (owner :="list_reverseiterator") (n :="__iter__") rfl 'W' 'W' 'W'
  (by first|exact .inl 'W'|exact .inr 'W') rfl
theorem entry_lri_iter:entryFor table "list_reverseiterator.__iter__"=some Builtin.«dict_keyiterator.__iter__»:=
 entryFor_alias (id' :="dict_keyiterator.__iter__") (by kernel_rfl) rfl 'W' (by kernel_rfl)
theorem UU (a:vn):argsOk "list_reverseiterator.__iter__" ⟨[a],[]⟩:=by
 unfold argsOk;rw[afY (n:=['_', '_', 'r', 'e', 't', 'i', '_', '_']) (by kernel_rfl) owner_lri];kernel_rfl
theorem Wn:typeLookup (.type "list_reverseiterator") "__len__"=pure none:='X'
theorem Yk:typeLookup (.type "list_reverseiterator") "__length_hint__"=pure (some (.builtin "list_reverseiterator.__length_hint__")):='X'
theorem sub_lri_reversed:isSubtype (.type "list_reverseiterator") (.type "reversed")=pure false:='X'
def ox (l:adV)(x:Int):Obj:={cls:=.type "list_reverseiterator",data:=.fields #[.ref l,rawInt x]}
section
theorem Yl {i:Nat}(hI:s.heap.get? I=some (ox l (items.size-1-i:Int)))(hl:s.heap.get? l=some {cls:=.type "list",dict:=none,data:=.seq items n,slots:=#[]})(hi:i<items.size)(hv:items[items.size-1-i]?=some v)(hQ:∀h',h'.get? I=some (ox l (items.size-1-(i+1:Nat):Int))->Heap.SameBut I s.heap h'->Q (some v) {s with heap:=h'}):wpAny (model prog w) A (pyNext (.ref I)) Q E s:=by
 have hT:s.TypeIs (.ref I) "list_reverseiterator":=⟨_,hI,rfl⟩
 refine ar (afl (aeb hT slot_lri_next (Sm slot_lri_next hT entry_lri_next ?_ (Jd _))));refine ar (wpAny_pure ?_);refine ar (ar (ae5 hI rfl ?_));refine wpAny_pure ?_;show wpAny _ _ (if((items.size:Int)-1-i)<0 then _ else _) _ _ _;rw[rf 'O'];refine ar (ar (ae5 hI rfl ?_));refine wpAny_pure ?_;refine ar (afL hl rfl ?_);dsimp only;rw[show((items.size:Int)-1-i).toNat=items.size-1-i by lia,hv];refine ar (wpAny_setField_rec hI (show 1<2 by decide) λh' h1 h2=>?_);refine wpAny_pure ⟨_,rfl,wpAny_pure (hQ h' ?_ h2)⟩;rw[h1];rw[show(items.size:Int)-1-i-1=items.size-1-(i+1) by lia]
 rfl
theorem Z1 (hh:A.handled=none)(hI:s.heap.get? I=some (ox l (-1)))(hQ:∀h',Heap.ExtBut I s.heap h'->Q none {s with heap:=h'}):wpAny (model prog w) A (pyNext (.ref I)) Q E s:=by
 have hT:s.TypeIs (.ref I) "list_reverseiterator":=⟨_,hI,rfl⟩
 refine ar (afl (aeb hT slot_lri_next (Sm slot_lri_next hT entry_lri_next ?_ (Jd _))));refine ar (wpAny_pure ?_);refine ar (ar (ae5 hI rfl ?_));refine wpAny_pure ?_;refine ar (ad3 ?_);refine ar ?_;refine ar ?_;refine ar (SO ?_ (by size_fits));refine ar (aeD (by first|rfl|(simp[firstArgMember];rfl)) ?_);refine SO ?_ (by size_fits);refine ar (wpAny_handled ?_);rw[hh];refine ar (wpAny_pure (wpAny_throw ?_));refine ar (afa ⟨_,BS _ rfl,rfl⟩ isSubtype_stop ?_);refine wpAny_pure (hQ _ λb o hb e=>mf _ (mf _ e))
def wY (I l:adV)(items:Array vn)(c:Nat)(i:Nat)(h:Heap):Prop:=h.get? I=some (ox l (items.size-1-i:Int))/\h.get? l=some {cls:=.type "list",dict:=none,data:=.seq items c,slots:=#[]}
theorem Xi (hh:A.handled=none)(i6:l≠I):Walks prog w A I [I,l] [I] items.size (λi v=>items[items.size-1-i]?=some v) (wY I l items c) where
 sub:=λb hb=>'J'
 frame:=λ_ _ _ st hk=>⟨hk I 'Y' _ st.1,hk l 'Y' _ st.2⟩
 item:=λi s Q E hi st hQ=>by
  obtain⟨v,hv⟩:∃v,items[items.size-1-i]?=some v:=⟨_,TM 'Z'⟩
  refine Yl st.1 st.2 hi hv λh' h1 h2=>?_
  exact hQ v h' s.toks hv ⟨h1,(h2.2 l i6).trans st.2⟩ λb o hb e=>(h2.2 b (λh=>hb (by simp[h]))).trans e
 done:=λs Q E st hQ=>Z1 hh (by rw[st.1];congr 2;lia) λh' jW=>hQ h' s.toks λb o hb e=>jW b o (λh=>hb (by simp[h])) e
 self:=λi s Q E st hQ=>by
  have hT:s.TypeIs (.ref I) "list_reverseiterator":=⟨_,st.1,rfl⟩
  refine afS hT slot_lri_iter (Sm slot_lri_iter hT entry_lri_iter ?_ (UU _));exact wpAny_pure ⟨_,rfl, "list_reverseiterator",_,hT,slot_lri_next.lookup,hQ⟩
theorem Ym (hT:s.TypeIs (.ref r) "list_reverseiterator")(h:Q false s):wpAny (model prog w) A (Builtin.List.listLengthHint (.ref r)) Q E s:=by
 refine ar (aeO hT Wn ?_);refine RI (λck=>absurd ck 'Q') (λ_=>?_);refine RI (λck=>absurd ck 'Q') (λ_=>?_);refine ar (aeO hT Yk ?_);generalize Hn:("list_reverseiterator.__length_hint__")=id0;subst Hn;refine ar (afa (b:=true) hT (by kernel_rfl) ?_);refine RI (λck=>absurd ck 'Q') (λ_=>?_);refine RI (λ_=>?_) (λck=>absurd 'W' ck);refine RI (λck=>absurd ck 'Q') (λ_=>?_);exact wpAny_pure h
end
section
theorem Wo (hh:A.handled=none)(st:wY I l items c 0 s.heap)(i6:l≠I)(wU:S≠I)(HI:S≠l)(hS:s.heap.get? S=some {cls:=.type "list",data:=.seq #[] c₀})(hn:items.size<=sizeLine)(hR:∀h' tk gM c',(∀b o,b≠S->b≠I->s.heap.get? b=some o->h'.get? b=some o)->h'.get? S=some {cls:=.type "list",dict:=none,data:=.seq gM c',slots:=#[]}->ItemsOf (λi v=>items[items.size-1-i]?=some v) gM items.size->R (.ok (.ret res)) {s with heap:=h',toks:=tk}):
  wpAny (model prog w) A.in1 (Builtin.List.listExtendWith (.ref S) (.ref I) res)
   (λfin s'=>match fin with | .done f=>R (.ok f) s' | .again c'=>c'.quiet=true/\codeAny (model prog w) A c' R s') (λe s'=>R (.error e) s') s:=by
 have wR:S∉[I,l]:='J'
 have W:=Xi (prog:=prog) (w:=w) (A:=A.in1) (items:=items) (c:=c) hh i6;have hT:s.TypeIs (.ref I) "list_reverseiterator":=⟨_,st.1,rfl⟩
 have key:∀(h) (c₁ tk),wY I l items c 0 h->(∀b o,b≠S->s.heap.get? b=some o->h.get? b=some o) ->
   h.get? S=some {cls:=.type "list",data:=.seq #[] c₁}->codeAny (model prog w) A (.builtin "list.extend.loop" ⟨[.ref S,.ref I,res],[]⟩) R {s with heap:=h,toks:=tk}:=by
  intro h c₁ tk iG hk ack;refine codeAny_extend_loopS W.toS hn S wR res items.size 0 _ #[] c₁ rfl (AM _) iG ack (ItemsOf.nil _) λs' gM c' hm ik dS=>?_
  rw[Moved.eq_with hm];refine hR s'.heap s'.toks gM c' (λb o hb RC e=>hm.heap b o (λadV=>?_) (hk b o hb e)) ik dS
  simp_all
 refine ar (wpAny_typeOf hT ?_);have h1:Builtin.List.listSameRef (.ref S) (.ref I)=false:=by simp[Builtin.List.listSameRef,wU]
 have h2:(Value.type "list_reverseiterator"== Value.type "list")=false:='Q'
 have h3:(Value.type "list_reverseiterator"== Value.type "tuple")=false:='Q'
 simp[h1];refine ar (W.self 0 s _ _ st ?_);refine ar (Po (Ym hT ?_));refine RI (λ_=>?_) (λ_=>wpAny_pure ⟨aeM afN _,key _ c₀ _ st (λb o _ e=>e) hS⟩);refine ar (ad3 ?_);refine ar ?_;refine ar (wpAny_updateSeq hS rfl ?_);have zD:=NG (Obj.mapSeq (·.push Value.none)) hS rfl;refine wpAny_updateSeq zD rfl ?_;have acm:=NG (Obj.mapSeq (·.pop)) zD rfl;refine wpAny_pure ⟨aeM afN _,key _ _ _ ?_ (λb o hb e=>?_) acm⟩
 ·refine W.frame 0 _ _ st λb hb o e=>?_
  have qV:b≠S:=λh=>wR (h▸hb)
  exact(ON _ _ (ad7 qV)).trans ((ON _ _ (ad7 qV)).trans e)
 ·exact(ON _ _ (ad7 hb)).trans ((ON _ _ (ad7 hb)).trans e)
theorem Yn (hh:A.handled=none)(st:wY I l items c 0 s.heap)(i6:l≠I)(wU:S≠I)(HI:S≠l)(hS:s.heap.get? S=some {cls:=.type "list",data:=.seq #[]})(hn:items.size<=sizeLine)(hR:∀h' tk gM c',(∀b o,b≠S->b≠I->s.heap.get? b=some o->h'.get? b=some o)->h'.get? S=some {cls:=.type "list",dict:=none,data:=.seq gM c',slots:=#[]}->ItemsOf (λi v=>items[items.size-1-i]?=some v) gM items.size->R (.ok (.ret .none)) {s with heap:=h',toks:=tk}):
  wpAny (model prog w) A.in1 (Builtin.«list.__init__» ⟨[.ref S,.ref I],[]⟩)
   (λfin s'=>match fin with | .done f=>R (.ok f) s' | .again c'=>c'.quiet=true/\codeAny (model prog w) A c' R s') (λe s'=>R (.error e) s') s:=by
 refine ar ?_;refine ar (afL hS rfl (wpAny_pure ?_));refine ar (wpAny_updateSeq hS rfl ?_);have zD:=NG (Obj.mapSeq (λ_=>(#[]))) hS rfl;have HJ:∀b o,b≠S->s.heap.get? b=some o->(s.heap.update S (Obj.mapSeq (λ_=>(#[])))).get? b=some o:=
  λb o hb e=>(ON _ _ (ad7 hb)).trans e
 refine ar (wpAny_letGo ?_);refine Wo hh ⟨HJ _ _ wU.symm st.1,HJ _ _ HI.symm st.2⟩ i6 wU HI zD hn (λh' tk gM c' hk ik dS=>?_);exact hR h' tk gM c' (λb o hb RC e=>hk b o hb RC (HJ b o hb e)) ik dS
end
section
theorem UW (hh:A.handled=none)(st:wY I l items c 0 s.heap)(i6:l≠I)(hn:items.size<=sizeLine)(hQ:∀h' tk gM c',(∀b o,b≠I->s.heap.get? b=some o->h'.get? b=some o)->h'.get? s.heap.objs.size=some {cls:=.type "list",dict:=none,data:=.seq gM c',slots:=#[]}->ItemsOf (λi v=>items[items.size-1-i]?=some v) gM items.size->Q (.ref s.heap.objs.size) {s with heap:=h',toks:=tk}):
  wpAny (model prog w) A (call (.type "list") [.ref I]) Q E s:=by
 refine callType_codes (Q₁:=λobj bz=>obj=.ref s.heap.objs.size/\bz={s with heap:=s.heap.push {cls:=.type "list",data:=.seq #[]}}) PySem.F.called_list (PySem.F.typeCall_list_1 _) PySem.F.entry_list_init
  (code_list_new _ ⟨rfl,rfl⟩) λobj bz h₁ => ?_
 obtain⟨rfl,rfl⟩:=h₁;have hS:(s.heap.push {cls:=.type "list",data:=.seq #[]}).get? s.heap.objs.size=some {cls:=.type "list",data:=.seq #[]}:=BS _ rfl;refine⟨⟨_,hS,rfl⟩,PySem.F.args_list_init_2 _ _,Yn hh ⟨mf _ st.1,mf _ st.2⟩ i6 (ael (nt st.1)) (ael (nt st.2)) hS hn (λh' tk gM c' hk ik dS=>?_)⟩;exact⟨rfl,hQ h' tk gM c' (λb o hb e=>hk b o (AN (nt e)) hb (mf _ e)) ik dS⟩
theorem T9 (hl:s.heap.get? l=some {cls:=.type "list",dict:=none,data:=.seq items c,slots:=#[]})(h:Q₁ (.ref s.heap.objs.size) {s with heap:=s.heap.push (ox l (items.size-1:Int))}):
  codeAny (model prog w) A (.call (.builtin "reversed.__new__") ⟨[.type "reversed",.ref l],[]⟩) (wants Q₁ E) s:=by
 have hT:s.TypeIs (.ref l) "list":=⟨_,hl,rfl⟩
 refine codeAny_of_tree ?_;refine ar (aeD (F.newCall_reversed_1 _) (wpAny_pure ⟨aeM F.plain_reversed_new _,aeN F.entry_reversed_new ?_⟩));refine ar (aeD (newClass_reversed _) ?_)
 try dsimp only
 refine ar (aeD (a:=()) (by first|rfl|kernel_rfl) ?_);refine ar (aeD (by first|rfl|kernel_rfl) ?_)
 try dsimp only
 refine ar (aeO hT afi.lookup ?_)
 try dsimp only
 refine ar (aeD (afi.bind _) ?_)
 try dsimp only
 first
 |rw[rf (show ¬((Value.builtin "list.__reversed__"== Value.none)=true)from AL)]
 |(show wpAny _ _ (if(Value.builtin "list.__reversed__"== Value.none)=true then _ else _) _ _ _;rw[rf (AL)])
 refine ar (ad3 ?_);refine ar (afo afi hT F.entry_list_reversed (F.args_list_reversed_1 _) (PySem.AutoListH.list___reversed___list_0 l items c) ⟨hl,?_⟩)
 first
 |exact wpAny_pure h
 |exact ar (wpAny_pure (wpAny_pure h))
theorem call_reversed_list (hl:s.heap.get? l=some {cls:=.type "list",dict:=none,data:=.seq items c,slots:=#[]})(h:Q (.ref s.heap.objs.size) {s with heap:=s.heap.push (ox l (items.size-1:Int))}):wpAny (model prog w) A (call (.type "reversed") [.ref l]) Q E s:=by
 refine callType_other (Q₁:=λobj bz=>obj=.ref s.heap.objs.size/\bz={s with heap:=s.heap.push (ox l (items.size-1))}) 'W' F.create_reversed ⟨_,_,F.mro_reversed⟩ F.made_reversed sub_lri_reversed (F.typeCall_reversed_1 _) (T9 hl ⟨rfl,rfl⟩) ?_;rintro obj bz ⟨rfl,rfl⟩;exact⟨⟨_,BS _ rfl,rfl⟩,h⟩
end
theorem Kk:∀{xs:List V} {us:List vn},Vals xs us->Vals xs.reverse us.reverse
 |_,_,.nil=>.nil
 |_,_,.cons h t=>by rw[aeY,aeY];exact Paired.snoc (Kk t) h
def Kl (ta:TA):TE:=λσ H Q=>ta σ H λvs H1=>∃l xs,vs=[.ref l]/\H1 l=some (.lst xs)/\∀S,H1 S=none->Q (.ref S) (upd H1 S (.lst xs.reverse))
theorem Wq {p p2 pos oy:Pos}(hc:X.calm=true)(hg:Gl X "list")(hm:X.mg "list"=none)(jF:Gl X "reversed")(i7:X.mg "reversed"=none)(ha:PA X [a] ta)(hs:starEach [a] X.env=[(false,eval a X.env)]:=by rfl)(gQ:starEach [.Call (.Name "reversed" p2) [a] [] oy] X.env=[(false,eval (.Call (.Name "reversed" p2) [a] [] oy) X.env)]:=by rfl):
  PE X (.Call (.Name "list" p) [.Call (.Name "reversed" p2) [a] [] oy] [] pos) (Kl ta):=by
 intro pins s σ H Q I h;refine Call_ (mU I hg hm rP (LH ?_ gQ rfl));refine Calls.spliced_cons (Call_ (mU I jF i7 boot_reversed (LH (aE (ha oy pins s σ H _ I h) λus s1 ⟨vs,H1,I1,r1,q1⟩=>?_) hs rfl)));obtain⟨l,xs,rfl,hH,q⟩:_:=q1;obtain⟨u,rfl,rx⟩:=vals1 r1;cases rx;obtain⟨hz,its,c,rv,hl⟩:_:=(I1.aL l _ hH)
 have ln:=rv.length;refine call_reversed_list hl (Calls.spliced_nil ?_);have lt:=nt hl;refine UW (I.ok.hd hc) ⟨?_,mf _ hl⟩ (AN lt) (by rw[Cn];lia) λh' tk acc c' hk hS dS=>?_
 ·rw[BS _ rfl];congr 2;lia
 ·have sz:(s1.heap.push (ox l (its.toArray.size-1))).objs.size=s1.heap.objs.size+1:=size_push' ..;have ea:acc.toList=its.reverse:=by
   refine OE λi=>?_
   have HK:its.toArray.size=its.length:=Cn ..;obtain hi|hi:=EM i its.length
   ·have iL:i<acc.size:=by rw[dS.1,HK];exact hi
    have:its.toArray[its.toArray.size-1-i]?=some acc[i]:=dS.2 i acc[i] (TM iL);rw[Of,HK]at this;rw[DD,TM iL,List.getElem?_reverse hi,this]
   ·rw[Mc (l:=its.reverse) (by rw[List.length_reverse];exact hi),DD,Array.getElem?_eq_none (by rw[dS.1,HK];exact hi)]
  have kp:=λb o e=>hk b o (AN (nt e)) (mf _ e)
  refine⟨.ref _,_,I1.laid (t':=tk) kp (by rw[sz];exact ad8 _) ?_,rfl,q _ (I1.aL.fresh (by rw[sz];exact ad8 _))⟩;refine⟨by rw[List.length_reverse];exact hz,its.reverse,c',?_,?_⟩
  ·exact Kk rv
  ·rw[<- ea,aff];exact hS
section
variable {F:aS ι}{pos:Pos}
theorem LD {K:Frag}:∀{ds:List Dv} {vs:List V},aH K G ds vs->aH K G ds.reverse vs.reverse
 |[],_,h=>by rw[h];rfl
 |d::ds,_,z9=>by
  obtain⟨x,r,h1,h2,h3⟩:=z9;subst h1;rw[aeY,aeY];exact aH.F8 (LD h3) ⟨x,[],rfl,h2,rfl⟩
theorem Wr {xs:List Dv}(hm:F.mg "list"=none)(i7:F.mg "reversed"=none)(ha:Ev F a ρ (.ow (xs.map .fz))){p p2 oy:Pos}(hg:∀i,Gl (F.cx i) "list":=by intro _;rfl)(jF:∀i,Gl (F.cx i) "reversed":=by intro _;rfl)(hs:∀i,starEach [a] (F.cx i).env=[(false,eval a (F.cx i).env)]:=by intro _;rfl)(gQ:∀i,starEach [.Call (.Name "reversed" p2) [a] [] oy] (F.cx i).env=[(false,eval (.Call (.Name "reversed" p2) [a] [] oy) (F.cx i).env)]:=by intro _;rfl):
  Ev F (.Call (.Name "list" p) [.Call (.Name "reversed" p2) [a] [] oy] [] pos) ρ (.ow (xs.reverse.map .fz)):=by
 obtain⟨τ,pa,q⟩:_:=ha;refine⟨Kl (dH τ d8),λi=>Wq (F.calm i) (hg i) ((F.hm i).symm▸hm) (jF i) ((F.hm i).symm▸i7) (cm (pa i) cR (hs i)) (hs i) (gQ i),λσ G H Q s r k=>q σ G H _ s r λv G1 H1 fq s1 o w1=>?_⟩;obtain⟨l,vs,f',rfl,h1,h2,h3⟩:_:=o;refine⟨l,vs,rfl,h1,λS hS=>?_⟩;have hv:aH F.K G1 xs vs:=by
  have:∀{xs:List Dv} {vs:List V} {f:List adV},aV F.K G1 H1 (xs.map .fz) vs f->aH F.K G1 xs vs:=by
   intro xs
   induction xs with
   |nil=>intro vs f h;exact h.1
   |cons d xs ih=>
    intro vs f h;obtain⟨v,r,f1,f2,rfl,_,⟨_,hd⟩,hr⟩:_:=h;exact⟨v,r,rfl,hd,ih hr⟩
  exact this h2
 exact(k.step s1).lst s1.s (LD hv).jD hS
end
theorem abn (a:LI):de (dT a)<=1:=lu a
section
theorem abo {u v:V}(ha:Ev F a ρ (.fz (.fl u)))(hb:Ev F b ρ (.fz (.fl v)))(hs:zM u v=true):Et F (.Compare a [.NotEq] [b] pos) ρ (!decide (u=v)):=
 jh (λ_=>OU) ha hb (λG H x y Q s hx hy k=>by rw[aO hx,aO hy];exact⟨hs,k⟩) (fN _)
end
end L2
namespace af
def cn {α:Type}(R:List α)(p : α->Bool):Int:=((R.filter p).length:Nat)
def sg (m:Nat)(f:Nat->Int):Int:=((List.range m).map f).sum
theorem NI (p : α->Bool):cn ([]:List α) p=0:=rfl
theorem rY (a : α)(R:List α)(p : α->Bool):cn (a::R) p=(if p a then 1 else 0)+cn R p:=by
 unfold cn
 grind
theorem vo (R:List α)(p : α->Bool) : 0<=cn R p:=by unfold cn;lia
theorem uH (f:Nat->Int):sg 0 f=0:=rfl
theorem iS (m:Nat)(f:Nat->Int):sg (m+1) f=sg m f+f m:=by
 unfold sg;rw[List.range_succ,BN,aeo];simp
theorem mI (h:∀i,i<m->f i=g i):sg m f=sg m g:=by
 grind [sg,List.map_congr_left]
theorem yV (m:Nat)(f g:Nat->Int):sg m (λi=>f i+g i)=sg m f+sg m g:=by
 induction m with
 |zero=>rfl
 |succ m ih=>rw[iS,iS,iS,ih];lia
theorem uZ (m:Nat)(k:Int)(f:Nat->Int):sg m (λi=>k*f i)=k*sg m f:=by
 induction m with
 |zero=>rw[uH,uH,Int.mul_zero]
 |succ m ih=>rw[iS,iS,ih,aeE]
theorem sH (m:Nat)(f g:Nat->Int):sg m (λi=>f i-g i)=sg m f-sg m g:=by
 induction m with
 |zero=>rfl
 |succ m ih=>rw[iS,iS,iS,ih];lia
theorem lH (h:∀i,i<m->0<=f i) : 0<=sg m f:=by
 induction m with
 |zero=>exact aeZ _
 |succ m ih=>
  rw[iS]
  grind
theorem lI (h:∀i,i<m->f i<=g i):sg m f<=sg m g:=by
 induction m with
 |zero=>exact aeZ _
 |succ m ih=>
  grind [iS]
theorem sI (h:∀i,i<m->0<=f i)(hi:i<m):f i<=sg m f:=by
 induction m with
 |zero=>exact absurd hi (VT _)
 |succ m ih=>
  rw[iS];have:=lH λi hi=>h i (aer hi)
  grind
theorem BE (h:∀i,i<m->0<=f i)(z:sg m f=0):∀i,i<m->f i=0:=λi hi=>by
 have:=sI h hi
 grind
theorem pL (m:Nat)(k:Nat)(v:Int):sg m (λi=>if i=k then v else 0)=if k<m then v else 0:=by
 induction m with
 |zero=>rw[uH,rf (VT _)]
 |succ m ih=>
  rw[iS,ih];lia
theorem Pj (R:List α)(f : α->Nat)(p : α->Bool)(h:∀c∈R,f c<m):sg m (λi=>cn R λc=>decide (f c=i)&&p c)=cn R p:=by
 induction R with
 |nil=>
  have:sg m (λ_=>(0))=0:=by
   have:=uZ m 0 λ_=>0
   simp_all
  exact this
 |cons c R ih=>
  rw[rY,<- ih λc hc=>h c (.tail _ hc)];rw[mI (g:=λi=>(if i=f c then (if p c then 1 else 0)else 0)+cn R λc=>decide (f c=i)&&p c) λi _=>?_,yV,pL,uu (h c (.head _))];rw[rY]
  grind
theorem Yo (R:List α)(p q : α->Bool):cn R (λc=>p c&&q c)+cn R (λc=>p c && !q c)=cn R p:=by
 induction R with
 |nil=>rfl
 |cons c R ih=>
  rw[rY,rY,rY,<- ih];cases p c<;>cases q c<;>simp<;>lia
theorem NK {R:List α}{p : α->Bool}(h : 0<cn R p):∃c∈R,p c=true:=by
 unfold cn at h
 simp_all
theorem Eg {R:List α}{p : α->Bool}{c : α}(h:c∈R)(hp:p c=true) : 1<=cn R p:=by
 unfold cn;have:=List.length_pos_of_mem (B0.mpr ⟨h,hp⟩);lia
theorem Dr {R:List α}{p : α->Bool}(h:∀c∈R,p c=false):cn R p=0:=by
 unfold cn
 simp_all
theorem Eh {R:List α}{p : α->Bool}(nd:R.Nodup)(h:∀c∈R,∀d∈R,p c=true->p d=true->c=d):cn R p<=1:=by
 induction R with
 |nil=>rw[NI];decide
 |cons c R ih=>
  grind [rY,Dr]
def sl (f:Nat->Int)(l:List Nat):Int:=(l.map f).sum
theorem ki (f:Nat->Int)(a:Nat)(l:List Nat):sl f (a::l)=f a+sl f l:=by
 rfl
theorem abp (f g:Nat->Int)(l:List Nat):sl (λx=>f x+g x) l=sl f l+sl g l:=by
 induction l with
 |nil=>rfl
 |cons a l ih=>rw[ki,ki,ki,ih];lia
theorem abq (f g:Nat->Int)(l:List Nat):sl (λx=>f x-g x) l=sl f l-sl g l:=by
 induction l with
 |nil=>rfl
 |cons a l ih=>rw[ki,ki,ki,ih];lia
theorem u9 (k:Int)(f:Nat->Int)(l:List Nat):sl (λx=>k*f x) l=k*sl f l:=by
 induction l with
 |nil=>show(0)=k*0;rw[Int.mul_zero]
 |cons a l ih=>rw[ki,ki,ih,aeE]
theorem Fm {f g:Nat->Int}{l:List Nat}(h:∀x∈l,f x<=g x):sl f l<=sl g l:=by
 induction l with
 |nil=>exact aeZ _
 |cons a l ih=>
  rw[ki,ki];have:=ih λx hx=>h x (.tail _ hx)
  have:=h a (.head _);lia
theorem uv (h:∀x∈l,f x=g x):sl f l=sl g l:=by
 grind [sl,List.map_congr_left]
theorem acn (h:∀x∈l,0<=f x) : 0<=sl f l:=by
 have:=Fm h;have e:sl (λ_=>(0)) l=0:=by
  have:=u9 0 (λ_=>0) l
  simp_all
 lia
theorem NM (nd:l.Nodup)(z:Nat)(v:Int):sl (λx=>if x=z then v else 0) l=if z∈l then v else 0:=by
 induction l with
 |nil=>rw[rf 'Y'];rfl
 |cons a l ih=>
  grind [ki]
theorem Yp {l1:LI}(p:l1.Perm l2):l1.sum=l2.sum:=by
 induction p with
 |nil=>rfl
 |cons x _ ih=>rw[Nd,Nd,ih]
 |swap x y l=>rw[Nd,Nd,Nd,Nd];lia
 |trans _ _ h1 h2=>exact h1.trans h2
theorem Ei (p:l.Perm (List.range M))(f:Nat->Int):sl f l=sg M f:=Yp (p.map f)
def Bf (l:List Nat)(x y:Nat):Prop:=∃j,l[j]?=some y/\x∈l.take j
theorem LJ {G:List Nat}(h:G.idxOf x<G.length):x∈G:=Nl.mp h
theorem Z2 {W:List Nat}(h:G.idxOf x<G.idxOf y):(G++W).idxOf x<(G++W).idxOf y:=by
 have hx:=LJ (zd h List.idxOf_le_length);rw[List.idxOf_append,List.idxOf_append,uu hx];split
 ·exact h
 ·have:=Nl.mpr hx;lia
theorem Z3 {W:List Nat}(hx:x∈G)(hy:y∉G):(G++W).idxOf x<(G++W).idxOf y:=by
 grind
structure St where
 own:Nat->Nat->Int
 sp:Nat->Int
 got:Nat->Nat->Int
 wn:Nat->Int
section
variable (A:Nat) (O:Nat->List Nat) (s:St)
def cW:List Nat:=(List.range A).filter λa=>decide (0<s.wn a)
def owners (x:Nat):List Nat:=(List.range A).filter λa=>decide (0<s.own a x)
def cB (x:Nat):Bool:=decide (s.sp x=0)&&(owners A s x).isEmpty
def best (a:Nat):Nat:=((O a).filter λx=>!cB A s x).headD 0
def sW (x:Nat):Nat:=if 0<s.sp x then (cW A s).headD 0 else (owners A s x).headD 0
def nx (a:Nat):Nat:=sW A s (best A O s a)
def fK (x:Nat):Int:=sg A (λa=>s.own a x)+s.sp x
def aP (R:List Nat)(p:Int):St where
 own g x:=s.own g x-p*cn R λc=>decide (nx A O s c=g)&&(decide (best A O s c=x) && !decide (0<s.sp x))
 sp x:=s.sp x-p*cn R λc=>decide (best A O s c=x)&&decide (0<s.sp x)
 got a x:=s.got a x+p*cn R λc=>decide (c=a)&&decide (best A O s c=x)
 wn a:=s.wn a-p*cn R λc=>decide (c=a)
def lv (a:Nat):St:={s with sp:=λx=>s.sp x+s.own a x,own:=λb x=>if b=a then 0 else s.own b x}
structure Iv (M:Nat) (B:Int) (cnt:Nat->Int) (sh:Nat->Nat->Int) (L G:List Nat):Prop where
 o0:∀a x,a<A->x<M->0<=s.own a x
 s0:∀x,x<M->0<=s.sp x
 g0:∀a x,a<A->x<M->0<=s.got a x
 w0:∀a,a<A->0<=s.wn a
 col:∀x,x<M->sg A (λa=>s.got a x)+fK A s x=cnt x*B
 row:∀a,a<A->sg M (s.got a)+s.wn a=B
 lf:∀a x,a<A->x<M->s.wn a=0->a∉L->s.own a x=0
 pr:∀a k,a<A->0<s.wn a->sl (sh a) ((O a).take k)<=sl (s.got a) ((O a).take k)+sl (s.own a) ((O a).take k)
 pl:∀a k,a<A->s.wn a=0->sl (sh a) ((O a).take k)<=sl (s.got a) ((O a).take k)
 bh:∀a x y,a<A->x<M->y<M->0<s.own a x->0<s.got a y->∀k,x∈(O a).take k->y∈(O a).take k
 ga:∀x,x<M->(x∈G↔fK A s x=0)
 ef:∀a x y,a<A->y<M->0<s.got a y->Bf (O a) x y->G.idxOf x<G.idxOf y
def Ok (M:Nat):Prop:=∀a,a<A->(O a).Perm (List.range M)
end
section
theorem CJ (h:Iv A O s M B cnt sh L G)(hx:x<M):cB A s x=true↔fK A s x=0:=by
 unfold cB fK;have nn:=lH λa ha=>h.o0 a x ha hx
 have s0:=h.s0 x hx;rw[Lo,LM,List.isEmpty_iff]
 constructor
 ·rintro⟨h1,h2⟩;have:sg A (λa=>s.own a x)=0:=by
   have e:sg A (λa=>s.own a x)=sg A λ_=>0:=mI λa ha=>by
    have:=h.o0 a x ha hx;have:¬0<s.own a x:=λz=>by
     have:a∈owners A s x:=B0.mpr ⟨l9.mpr ha,EO z⟩
     simp_all
    lia
   grind [uZ]
  lia
 ·intro z;refine⟨'O',?_⟩;refine List.filter_eq_nil_iff.mpr λa ha=>?_
  have:=BE (λa ha=>h.o0 a x ha hx) 'O' a (l9.mp ha)
  simp_all
theorem Ko (h:Iv A O s M B cnt sh L G)(hx:x<M):cB A s x=true↔x∈G:=(CJ h hx).trans (h.ga x hx).symm
theorem JM (h:Iv A O s M B cnt sh L G)(ha:a<A)(hx:x<M)(ho : 0<s.own a x):cB A s x=false:=by
 cases z:cB A s x with
 |false=>rfl
 |true=>
  have z:=(CJ h hx).mp z;have:=sI (λa ha=>h.o0 a x ha hx) ha;have:=h.s0 x hx;unfold fK at z;lia
theorem JN (h:Iv A O s M B cnt sh L G)(hn:n<M)(hc:cnt n=A)(ha:a<A)(hw : 0<s.wn a):cB A s n=false:=by
 cases z:cB A s n with
 |false=>rfl
 |true=>
  exfalso;have z:=(CJ h hn).mp z;have c:=h.col n hn;have gB:∀b,b<A->s.got b n<=B:=λb hb=>by
   have:=h.row b hb;have:=sI (λx hx=>h.g0 b x hb hx) hn;have:=h.w0 b hb;lia
  have:sg A (λb=>B-s.got b n)=0:=by
   rw[sH];have e:∀m,sg m (λ_=>B)=m*B:=λm=>by
    induction m with
    |zero=>rw[uH];simp
    |succ m ih=>rw[iS,ih];grind
   simp_all
  have z2:=BE (λb hb=>'J') this a ha;have r:=h.row a ha;have:=sI (λx hx=>h.g0 a x ha hx) hn;lia
theorem rZ (ok:Ok A O M)(h:Iv A O s M B cnt sh L G)(hn:n<M)(hc:cnt n=A)(ha:a<A)(hw : 0<s.wn a):best A O s a<M/\cB A s (best A O s a)=false/\(∀x,Bf (O a) x (best A O s a)->x∈G)/\∀y,y<M->cB A s y=false->∀k,y∈(O a).take k->best A O s a∈(O a).take k:=by
 have pm:=ok a ha;have mem:∀{x},x∈O a↔x<M:=λ{x} => by rw[pm.mem_iff,l9]
 have main:∀(l),(∃y∈l,cB A s y=false)->∃l1 b l2,l=l1++b::l2/\(∀x∈l1,cB A s x=true)/\cB A s b=false/\(l.filter λx=>!cB A s x).headD 0=b:=λl=>by
  induction l with
  |nil=>rintro⟨y,hy,_⟩;cases hy
  |cons c l ih=>
   intro hy;cases hc:cB A s c with
   |false=>exact⟨[],c,l,rfl,(λx hx=>nomatch hx),hc,by rw[aba,hc];rfl⟩
   |true=>
    obtain⟨l1,b,l2,e1,e2,e3,e4⟩:=ih (by
     obtain⟨y,hy,hg⟩:=hy;obtain rfl|hy:=ff.mp hy
     ·rw[hc]at hg;cases hg
     ·exact⟨y,hy,hg⟩)
    refine⟨c::l1,b,l2,by rw[e1];rfl,λx hx=>?_,e3,by rw[aba,hc];exact e4⟩;obtain rfl|hx:=ff.mp hx
    ·exact hc
    ·exact e2 x hx
 obtain⟨l1,b,l2,e1,e2,e3,e4⟩:_:=main (O a) ⟨n,mem.mpr hn,JN h hn hc ha hw⟩;have eb:best A O s a=b:=e4;have nd:=pm.nodup_iff.mpr aeh;have hb:b<M:=mem.mp (by rw[e1];simp);rw[eb];refine⟨hb,e3,λx hx=>?_,λy hy hg k hk=>?_⟩
 ·obtain⟨j,h1,h2⟩:_:=hx;have:j=l1.length:=by
   have q:(O a)[l1.length]?=some b:=by rw[e1,wb (br _)];simp
   obtain⟨u1,u2⟩:=gz.mp h1;obtain⟨v1,v2⟩:=gz.mp q;exact(List.getElem_inj nd).mp (u2.trans v2.symm)
  rw[this,e1,List.take_left]at h2;have:=mem.mp (by rw[e1];exact xy _ h2);exact(Ko h this).mp (e2 x h2)
 ·obtain q|q:=EM l1.length k
  ·rw[e1,aeC,qr];refine .inr ?_;cases hh:k-l1.length with
   |zero=>lia
   |succ m=>exact .head _
  ·exfalso;rw[e1,aeC,show k-l1.length=0 by lia,ae4,AS]at hk;rw[e2 y (EN hk)]at hg;cases hg
structure Rg (A:Nat) (O:Nat->List Nat) (s:St) (R:List Nat) (p:Int):Prop where
 nd:R.Nodup
 rg:∀c∈R,c<A/\0<s.wn c
 im:∀c∈R,nx A O s c∈R
 inj:∀c∈R,∀d∈R,nx A O s c=nx A O s d->c=d
 p0 : 0<p
 pw:∀c∈R,p<=s.wn c
 ps:∀c∈R,0<s.sp (best A O s c)->p<=s.sp (best A O s c)
 po:∀c∈R,¬0<s.sp (best A O s c)->p<=s.own (nx A O s c) (best A O s c)
theorem LK (nd:R.Nodup)(a:Nat)(q:Nat->Bool):cn R (λc=>decide (c=a)&&q c)=if a∈R/\q a=true then 1 else 0:=by
 by_cases h:a∈R/\q a=true
 ·rw[uu h];have h1:=Eg (p:=λc=>decide (c=a)&&q c) h.1 'J';have h2:=Eh (p:=λc=>decide (c=a)&&q c) nd λc _ d _ hc hd=>by
   simp_all
  lia
 ·grind [Dr]
theorem NN {c:Int}(h0 : 0<=c)(h1:c<=1):(c=0/\p*c=0)\/(c=1/\p*c=p):=by
 obtain e|e:=(show c=0\/c=1 by lia)
 ·simp_all
 ·simp_all
theorem Rg.c1 (r:Rg A O s R p)(g x:Nat):let C:=cn R λc=>decide (nx A O s c=g)&&(decide (best A O s c=x) && !decide (0<s.sp x))
  (C=0/\p*C=0)\/(C=1/\p*C=p/\g∈R/\p<=s.own g x/\∃c∈R,nx A O s c=g/\best A O s c=x):=by
 intro C;have le:C<=1:=Eh r.nd λc hc d hd h1 h2=>by
  rw[Lo,LM]at h1 h2;exact r.inj c hc d hd (h1.1.trans h2.1.symm)
 obtain h|h:=NN (vo _ _) le
 ·exact .inl h
 ·obtain⟨c,hc,e⟩:=NK (show 0<C by omega);rw[Lo,Lo,LM,LM,ae0,aeR]at e;obtain⟨e1,e2,e3⟩:=e;refine .inr ⟨h.1,h.2,e1▸r.im c hc,?_,c,hc,e1,e2⟩;have:=r.po c hc (by rw[e2];exact e3);rwa [e1,e2]at this
theorem Rg.c2 (r:Rg A O s R p)(x:Nat):let C:=cn R λc=>decide (best A O s c=x)&&decide (0<s.sp x)
  (C=0/\p*C=0)\/(C=1/\p*C=p/\p<=s.sp x):=by
 intro C;have le:C<=1:=Eh r.nd λc hc d hd h1 h2=>by
  refine r.inj c hc d hd ?_;unfold nx sW
  simp_all
 obtain h|h:=NN (vo _ _) le
 ·lia
 ·obtain⟨c,hc,e⟩:=NK (show 0<C by omega);refine .inr ⟨h.1,h.2,?_⟩;have:=r.ps c hc 'J'
  simp_all
theorem sd (r:Rg A O s R p)(a x:Nat):(aP A O s R p).got a x=s.got a x+if a∈R/\best A O s a=x then p else 0:=by
 show s.got a x+p*cn R (λc=>decide (c=a)&&decide (best A O s c=x))=_;rw[LK r.nd]
 grind
theorem pM (r:Rg A O s R p)(a:Nat):(aP A O s R p).wn a=s.wn a-if a∈R then p else 0:=by
 show s.wn a-p*cn R (λc=>decide (c=a))=_;have e:=LK r.nd a λ_=>true
 grind
theorem LN (r:Rg A O s R p)(x:Nat):fK A (aP A O s R p) x=fK A s x-p*cn R λc=>decide (best A O s c=x):=by
 have e1:=Pj R (nx A O s) (λc=>decide (best A O s c=x) && !decide (0<s.sp x)) λc hc=>(r.rg _ (r.im c hc)).1
 have e2:=Yo R (λc=>decide (best A O s c=x)) λ_=>decide (0<s.sp x)
 unfold fK;show sg A (λg=>s.own g x-p*cn R λc=>decide (nx A O s c=g)&&(decide (best A O s c=x) && !decide (0<s.sp x)))+(s.sp x-p*cn R λc=>decide (best A O s c=x)&&decide (0<s.sp x))=_;rw[sH,uZ,e1,<- e2,aeE];lia
theorem abr (ok:Ok A O M)(h:Iv A O s M B cnt sh [] G)(hn:n<M)(hc:cnt n=A)(r:Rg A O s R p)(hs:∀a,a<A->(∀x,x<M->0<=sh a x)/\sg M (sh a)=B):
  ∃W,Iv A O (aP A O s R p) M B cnt sh (R.filter λa=>decide ((aP A O s R p).wn a=0)) (G++W):=by
 have bo:=λc hr=>rZ ok h hn hc (r.rg c hr).1 (r.rg c hr).2
 have p0:=r.p0;have ow:∀g x,(aP A O s R p).own g x<=s.own g x/\(s.own g x=(aP A O s R p).own g x\/(g∈R/\(aP A O s R p).own g x=s.own g x-p/\p<=s.own g x)):=λg x=>by
  show s.own g x-p*cn R _<=s.own g x/\(s.own g x=s.own g x-p*cn R _\/(g∈R/\s.own g x-p*cn R _=s.own g x-p/\_))
  obtain⟨_,e⟩|⟨_,e,e2,e3,_⟩:=r.c1 g x
  ·rw[e];omega
  ·rw[e];exact⟨'Z',.inr ⟨e2,rfl,e3⟩⟩
 have RD:∀a x,a<A->x<M->0<=(aP A O s R p).own a x:=λa x ha hx=>by
  have:=h.o0 a x ha hx;obtain e|⟨_,e,e2⟩:=(ow a x).2<;>omega
 have RE:∀x,x<M->0<=(aP A O s R p).sp x:=λx hx=>by
  show 0<=s.sp x-p*cn R _;have:=h.s0 x hx;obtain⟨_,e⟩|⟨_,e,e2⟩:=r.c2 x
  ·rw[e];omega
  ·rw[e];omega
 have RF:∀a x,a<A->x<M->0<=(aP A O s R p).got a x:=λa x ha hx=>by
  rw[sd r];have:=h.g0 a x ha hx;split<;>omega
 have w0':∀a,a<A->0<=(aP A O s R p).wn a:=λa ha=>by
  rw[pM r];have:=h.w0 a ha;split
  ·rename_i q;have:=r.pw a q;omega
  ·omega
 have Qr:∀a,a<A->sg M ((aP A O s R p).got a)+(aP A O s R p).wn a=B:=λa ha=>by
  have e:sg M ((aP A O s R p).got a)=sg M (s.got a)+if a∈R then p else 0:=by
   rw[mI (g:=λx=>s.got a x+if x=best A O s a then (if a∈R then p else 0)else 0) λx _=>?_,yV,pL]
   ·by_cases q:a∈R
    ·rw[uu q,uu (bo a q).1]
    ·rw[rf q];split<;>rfl
   ·rw[sd r];by_cases q:a∈R
    ·by_cases q2:best A O s a=x
     ·rw[uu ⟨q,q2⟩,uu q2.symm,uu q]
     ·rw[rf λz=>q2 z.2,rf λz=>q2 z.symm]
    ·rw[rf λz=>q z.1,rf q];split<;>rfl
  rw[e,pM r];have:=h.row a ha;split<;>omega
 have aco:∀x,fK A (aP A O s R p) x<=fK A s x:=λx=>by
  rw[LN r];have:=ad1 (Pf p0) (vo R λc=>decide (best A O s c=x));omega
 have adb:∀x,x<M->0<=fK A (aP A O s R p) x:=λx hx=>by
  unfold fK;have:=lH λa ha=>RD a x ha hx
  have:=RE x hx;omega
 have RG:∀a x y,a<A->x<M->y<M->0<(aP A O s R p).own a x->0<(aP A O s R p).got a y->∀k,x∈(O a).take k->y∈(O a).take k:=λa x y ha hx hy h1 h2 k hk=>by
  have ho : 0<s.own a x:=by have:=(ow a x).1;omega
  rw[sd r]at h2;by_cases q:a∈R/\best A O s a=y
  ·rw[<- q.2];exact(bo a q.1).2.2.2 x hx (JM h ha hx ho) k hk
  ·rw[rf q]at h2;exact h.bh a x y ha hx hy ho 'Z' k hk
 have pre:∀a k,a<A->0<s.wn a->sl (sh a) ((O a).take k)<=sl ((aP A O s R p).got a) ((O a).take k)+sl ((aP A O s R p).own a) ((O a).take k):=λa k ha hw=>by
  have base:=h.pr a k ha hw;have nd:((O a).take k).Nodup:=((ok a ha).nodup_iff.mpr aeh).sublist (aeq _ _);have lt:∀x∈(O a).take k,x<M:=λx hx=>l9.mp ((ok a ha).mem_iff.mp (EN hx))
  have eg:sl ((aP A O s R p).got a) ((O a).take k)=sl (s.got a) ((O a).take k)+if best A O s a∈(O a).take k then (if a∈R then p else 0)else 0:=by
   rw[<- NM nd (best A O s a) (if a∈R then p else 0),<- abp];refine uv λx _=>?_
   rw[sd r];by_cases q:a∈R
   ·by_cases q2:best A O s a=x
    ·rw[uu ⟨q,q2⟩,uu q2.symm,uu q]
    ·rw[rf λz=>q2 z.2,rf λz=>q2 z.symm]
   ·rw[rf λz=>q z.1,rf q];split<;>rfl
  by_cases q:∃x∈(O a).take k,(aP A O s R p).own a x≠s.own a x
  ·obtain⟨z,hz,ne⟩:=q;have oz:=(ow a z).2;have inR:a∈R/\p<=s.own a z:=by
    obtain e|⟨e1,_,e3⟩:=oz
    ·exact absurd e.symm ne
    ·exact⟨e1,e3⟩
   have hb:best A O s a∈(O a).take k:=(bo a inR.1).2.2.2 z (lt z hz) (JM h ha (lt z hz) 'Z') k hz;have only:∀x,(aP A O s R p).own a x≠s.own a x->x=z:=λx hx=>by
    have cx:∀y,(aP A O s R p).own a y≠s.own a y->∃c∈R,nx A O s c=a/\best A O s c=y:=λy hy=>by
     obtain⟨_,e⟩|⟨_,_,_,_,e⟩:=r.c1 a y
     ·exfalso;apply hy;show s.own a y-p*cn R _=_;rw[e];omega
     ·exact e
    obtain⟨c,qY,qS,hc3⟩:=cx x hx;obtain⟨d,Hg,hd2,hd3⟩:=cx z ne;rw[<- hc3,<- hd3,r.inj c qY d Hg (qS.trans hd2.symm)]
   have eo:sl (s.own a) ((O a).take k)-p<=sl ((aP A O s R p).own a) ((O a).take k):=by
    have:sl (λx=>s.own a x-if x=z then p else 0) ((O a).take k)<=sl ((aP A O s R p).own a) ((O a).take k):=Fm λx hx=>by
     by_cases e:x=z
     ·subst e;rw[uu rfl];obtain e|⟨_,e,_⟩:=oz<;>omega
     ·rw[rf e];have:(aP A O s R p).own a x=s.own a x:=ES λw=>e (only x w)
      omega
    rw[abq,NM nd,uu hz]at this;exact this
   rw[eg,uu hb,uu inR.1];omega
  ·have eo:=uv λx hx=>ES λw=>q ⟨x,hx,w⟩
   rw[eg,eo];split
   ·split<;>omega
   ·omega
 refine⟨(List.range M).filter λx=>decide (fK A (aP A O s R p) x=0) && !G.contains x,RD,RE,RF,w0',λx hx=>?_,Qr,λa x ha hx hw hl=>?_,λa k ha hw=>?_,λa k ha hw=>?_,RG,λx hx=>?_,λa x y ha hy h1 h2=>?_⟩
 ·have e1:=Pj (m:=A) R (λc=>c) (λc=>decide (best A O s c=x)) λc hc=>(r.rg c hc).1
  show sg A (λa=>s.got a x+p*cn R λc=>decide (c=a)&&decide (best A O s c=x))+_=_;rw[yV,uZ,e1,LN r];have:=h.col x hx;lia
 ·by_cases q:a∈R
  ·exact absurd (B0.mpr ⟨q,EO hw⟩) hl
  ·rw[pM r,rf q]at hw;have:=h.lf a x ha hx 'O' 'Y';obtain e|⟨e,_⟩:=(ow a x).2
   ·lia
   ·exact absurd e q
 ·refine pre a k ha ?_;rw[pM r]at hw;split at hw<;>lia
 ·by_cases q:a∈R
  ·have pk:=pre a k ha (r.rg a q).2;by_cases z:∃x∈(O a).take k,0<(aP A O s R p).own a x
   ·obtain⟨x,hx,h1⟩:=z;have hM:∀x∈O a,x<M:=λx hx=>l9.mp ((ok a ha).mem_iff.mp hx)
    have tl:sl ((aP A O s R p).got a) ((O a).take k)+sl ((aP A O s R p).got a) ((O a).drop k)=B:=by
     have e:sl ((aP A O s R p).got a) (O a)=sg M ((aP A O s R p).got a):=Ei (ok a ha) _;have e2:sl ((aP A O s R p).got a) (O a)=sl ((aP A O s R p).got a) ((O a).take k)+sl ((aP A O s R p).got a) ((O a).drop k):=by
      unfold sl;rw[<- aeo,<- BN,ET]
     have:=Qr a ha;rw[hw]at this;lia
    have dz:sl ((aP A O s R p).got a) ((O a).drop k)=sl (λ_=>0) ((O a).drop k):=uv λy hy=>by
     have ym:=ad2 hy;have g0:=RF a y ha (hM y ym);have:¬0<(aP A O s R p).got a y:=λw=>by
      have yt:=RG a x y ha (hM x (EN hx)) (hM y ym) h1 w k hx;have nd:(O a).Nodup:=(ok a ha).nodup_iff.mpr aeh;rw[<- ET k (O a)]at nd;exact(ze.mp nd).2.2 y yt y hy rfl
     lia
    have z0:sl (λ_=>(0:Int)) ((O a).drop k)=0:=by
     have:=u9 0 (λ_=>0) ((O a).drop k);simpa using this
    have sB:sl (sh a) ((O a).take k)<=B:=by
     have e:sl (sh a) (O a)=sg M (sh a):=Ei (ok a ha) _;have e2:sl (sh a) (O a)=sl (sh a) ((O a).take k)+sl (sh a) ((O a).drop k):=by
      unfold sl;rw[<- aeo,<- BN,ET]
     have:=acn (f:=sh a) (l:=(O a).drop k) λy hy=>(hs a ha).1 y (hM y (ad2 hy))
     have:=(hs a ha).2;lia
    lia
   ·have:sl ((aP A O s R p).own a) ((O a).take k)<=sl (λ_=>0) ((O a).take k):=Fm λx hx=>by
     have:¬0<(aP A O s R p).own a x:=λw=>z ⟨x,hx,w⟩
     omega
    have z0:sl (λ_=>(0:Int)) ((O a).take k)=0:=by
     have:=u9 0 (λ_=>0) ((O a).take k);simpa using this
    lia
  ·rw[pM r,rf q]at hw;have:=h.pl a k ha 'O';rw[uv (f:=(aP A O s R p).got a) (g:=s.got a) λx _=>by rw[sd r,rf λz=>q z.1];lia];exact this
 ·rw[qr,B0,l9,Lo,LM,ae0]
  constructor
  ·rintro(q|⟨_,q,_⟩)
   ·have:=(h.ga x hx).mp q;have:=aco x;have:=adb x hx;lia
   ·exact q
  ·intro q;cases hG:G.contains x with
   |true=>exact .inl (MW.mp hG)
   |false=>exact .inr ⟨hx,q,rfl⟩
 ·rw[sd r]at h1;by_cases q:a∈R/\best A O s a=y
  ·have bq:=bo a q.1;rw[q.2]at bq;exact Z3 (bq.2.2.1 x h2) λz=>by
    rw[(Ko h bq.1).mpr z]at bq;exact absurd bq.2.1 'Q'
  ·rw[rf q]at h1;exact Z2 (h.ef a x y ha hy 'Z' h2)
theorem acp (h:Iv A O s M B cnt sh (a::L) G)(ha:a<A)(hw:s.wn a=0):Iv A O (lv s a) M B cnt sh L G:=by
 have te:∀x,fK A (lv s a) x=fK A s x:=λx=>by
  unfold fK;show sg A (λb=>if b=a then 0 else s.own b x)+(s.sp x+s.own a x)=_;rw[mI (g:=λb=>s.own b x-if b=a then s.own a x else 0) λb _=>?_,sH,pL,uu ha]
  ·lia
  ·by_cases e:b=a
   ·rw[uu e,uu e,e];lia
   ·lia
 have ow:∀b x,b<A->x<M->(lv s a).own b x<=s.own b x:=λb x hb hx=>by
  show(if b=a then 0 else s.own b x)<=_;have:=h.o0 b x hb hx;split<;>lia
 refine⟨λb x hb hx=>?_,λx hx=>?_,h.g0,h.w0,λx hx=>by rw[te];exact h.col x hx,h.row,λb x hb hx tS hl=>?_,λb k hb tS=>?_,h.pl,λb x y hb hx hy h1 h2=>h.bh b x y hb hx hy (by have:=ow b x hb hx;lia) h2,λx hx=>by rw[te];exact h.ga x hx,h.ef⟩
 ·show 0<=if b=a then 0 else s.own b x
  have:=h.o0 b x hb hx;split<;>lia
 ·show 0<=s.sp x+s.own a x;have:=h.s0 x hx;have:=h.o0 a x ha hx;lia
 ·show(if b=a then 0 else s.own b x)=0;by_cases e:b=a
  ·rw[uu e]
  ·rw[rf e];exact h.lf b x hb hx tS λz=>by
    obtain z|z:=ff.mp z
    ·exact e z
    ·exact hl z
 ·have e:b≠a:=λz=>by
   have : 0<s.wn b:=tS;rw[z,hw]at this;lia
  have:=h.pr b k hb tS;rw[uv (f:=(lv s a).own b) λx _=>by show(if b=a then 0 else s.own b x)=_;rw[rf e]];exact this
theorem NP:∀{L:List Nat} {s:St},Iv A O s M B cnt sh L G->(∀a∈L,a<A/\s.wn a=0)->Iv A O (L.foldl lv s) M B cnt sh [] G
 |[],_,h,_=>h
 |a::L,s,h,hl=>NP (s:=lv s a) (acp h (hl a (.head _)).1 (hl a (.head _)).2) λb hb=>hl b (.tail _ hb)
theorem zE (ok:Ok A O M)(h:Iv A O s M B cnt sh [] G)(hn:n<M)(hc:cnt n=A)(ha:a<A)(hw : 0<s.wn a):nx A O s a<A/\0<s.wn (nx A O s a)/\(¬0<s.sp (best A O s a)->0<s.own (nx A O s a) (best A O s a)):=by
 obtain⟨b1,b2,_,_⟩:_:=rZ ok h hn hc ha hw;unfold nx sW;by_cases q : 0<s.sp (best A O s a)
 ·rw[uu q];have:a∈cW A s:=B0.mpr ⟨l9.mpr ha,EO hw⟩;cases e:cW A s with
  |nil=>rw[e]at this;cases this
  |cons c r=>
   have:c∈cW A s:=by rw[e];exact .head _
   obtain⟨h1,h2⟩:=B0.mp this;exact⟨l9.mp h1,GS h2,λz=>absurd q z⟩
 ·rw[rf q];have s0:=h.s0 _ b1;cases e:owners A s (best A O s a)with
  |nil=>
   exfalso;unfold cB at b2;rw[e,EO (show s.sp (best A O s a)=0 by lia)]at b2;cases b2
  |cons c r=>
   have:c∈owners A s (best A O s a):=by rw[e];exact .head _
   obtain⟨h1,h2⟩:=B0.mp this;have h1:=l9.mp h1;have h2:=GS h2;refine⟨h1,?_,λ_=>h2⟩;have:=h.w0 c h1;obtain z|z:=(show s.wn c=0\/0<s.wn c by lia)
   ·have:=h.lf c _ h1 b1 z 'Y';lia
   ·exact z
structure Pt (A:Nat) (O:Nat->List Nat) (s:St) (P:List Nat) (x:Nat):Prop where
 nd:P.Nodup
 rg:∀c∈P,c<A/\0<s.wn c
 xr:x<A/\0<s.wn x
 ch:∀i c,P[i]?=some c->(P++[x])[i+1]?=some (nx A O s c)
theorem Pt.next (ok:Ok A O M)(h:Iv A O s M B cnt sh [] G)(hn:n<M)(hc:cnt n=A)(q:Pt A O s P x)(hx:x∉P):Pt A O s (P++[x]) (nx A O s x):=by
 have RH:=zE ok h hn hc q.xr.1 q.xr.2;refine⟨ze.mpr ⟨q.nd,AE.mpr ⟨(λz=>nomatch z),.nil⟩,λa ha b hb e=>by rw[BB.mp hb]at e;exact hx (e▸ha)⟩,λc kJ=>?_,⟨RH.1,RH.2.1⟩,λi c hi=>?_⟩
 ·obtain z|z:=qr.mp kJ
  ·exact q.rg c z
  ·rw[BB.mp z];exact q.xr
 ·obtain l|l:=EM i P.length
  ·rw[Cf l]at hi;have:=q.ch i c hi;rw[Cf (by rw[xw];show i+1<P.length+1;lia)];exact this
  ·have e:i=P.length:=by
    have:=(gz.mp hi).1;rw[xw]at this;have:i<P.length+1:=this;lia
   subst e;rw[wb (br _),aeH]at hi;cases hi;rw[wb (by rw[xw];exact br _)];rw[xw];show[nx A O s x][P.length+1-(P.length+1)]?=_;rw[aeH];rfl
theorem Pt.ring (q:Pt A O s P x)(hx:x∈P)(p0 : 0<p)(pw:∀c∈P.drop (P.idxOf x),p<=s.wn c)(ps:∀c∈P.drop (P.idxOf x),0<s.sp (best A O s c)->p<=s.sp (best A O s c))(po:∀c∈P.drop (P.idxOf x),¬0<s.sp (best A O s c)->p<=s.own (nx A O s c) (best A O s c)):Rg A O s (P.drop (P.idxOf x)) p:=by
 have il:=Nl.mpr hx;have ix:P[P.idxOf x]?=some x:=by
  rw[ab il,List.getElem_idxOf il]
 generalize P.idxOf x=m at *;have at':∀c∈P.drop m,∃i,m<=i/\P[i]?=some c:=λc hc=>by
  obtain⟨i,hi⟩:=WI.mp hc;rw[aek]at hi;exact⟨m+i,'O',hi⟩
 have qf:∀i c,m<=i->P[i]?=some c->c∈P.drop m:=λi c hi hc=>by
  refine WI.mpr ⟨i-m,?_⟩;rw[aek,show m+(i-m)=i by lia];exact hc
 have wZ:∀i c,m<=i->P[i]?=some c->(i+1<P.length/\P[i+1]?=some (nx A O s c))\/(i+1=P.length/\nx A O s c=x):=λi c hi hc=>by
  have z:=q.ch i c hc;have li:=(gz.mp hc).1;obtain l|l:=EM (i+1) P.length
  ·rw[Cf l]at z;exact .inl ⟨l,z⟩
  ·have e:i+1=P.length:='O'
   rw[e,wb (br _),aeH]at z;exact .inr ⟨e,(FF z).symm⟩
 have uniq:∀i j c,P[i]?=some c->P[j]?=some c->i=j:=λi j c h1 h2=>by
  obtain⟨a1,a2⟩:=gz.mp h1;obtain⟨b1,b2⟩:=gz.mp h2;exact(List.getElem_inj q.nd).mp (a2.trans b2.symm)
 refine⟨q.nd.sublist (afT _ _),λc hc=>q.rg c (ad2 hc),λc hc=>?_,λc hc d hd e=>?_,p0,pw,ps,po⟩
 ·obtain⟨i,hi,hc⟩:=at' c hc;obtain⟨_,z⟩|⟨_,z⟩:=wZ i c hi hc
  ·exact qf (i+1) _ 'O' z
  ·rw[z];exact qf m x (br _) ix
 ·obtain⟨i,hi,hc⟩:=at' c hc;obtain⟨j,hj,hd⟩:=at' d hd;have ij:i=j:=by
   obtain⟨l1,z1⟩|⟨l1,z1⟩:=wZ i c hi hc<;>obtain⟨l2,z2⟩|⟨l2,z2⟩:=wZ j d hj hd
   ·rw[e]at z1;have:=uniq _ _ _ z1 z2;lia
   ·rw[e,z2]at z1;have:=uniq _ _ _ z1 ix;lia
   ·rw[<- e,z1]at z2;have:=uniq _ _ _ z2 ix;lia
   ·lia
  subst ij;rw[hc]at hd;exact FF hd
def bi (v:Int):Int:=if 0<v then 1 else 0
theorem m9 {u v:Int}(h:u<=v):bi u<=bi v:=by unfold bi;split<;>split<;>lia
theorem zF (v:Int) : 0<=bi v:=by unfold bi;split<;>lia
theorem ade (v:Int):bi v<=1:=by unfold bi;split<;>lia
def mW (A:Nat)(s:St):Int:=sg A λa=>bi (s.wn a)
def mO (A M:Nat)(s:St):Int:=sg A (λa=>sg M λx=>bi (s.own a x))
def mS (M:Nat)(s:St):Int:=sg M λx=>bi (s.sp x)
def mu (A M:Nat)(s:St):Int:=100*mW A s+mO A M s+mS M s
theorem zG (h:∀i,i<m->f i<=g i)(hk:k<m)(hl:f k<g k):sg m f<sg m g:=by
 have : 0<=sg m (λi=>g i-f i-if i=k then 1 else 0):=lH λi hi=>by
  grind
 rw[sH,sH,pL,uu hk]at this;lia
theorem uw (m:Nat)(v:Int):sg m (λ_=>v)=m*v:=by
 induction m with
 |zero=>rw[uH];simp
 |succ m ih=>rw[iS,ih,show((m+1:Nat):Int)=(m)+1 by lia,Int.add_mul];lia
theorem Pk (M:Nat)(s:St) : 0<=mS M s/\mS M s<=M:=by
 refine⟨lH λx _=>zF _,?_⟩;have:=lI (m:=M) (f:=λx=>bi (s.sp x)) λx _=>ade _
 simp_all [uw,mS]
theorem NQ:∀(L:List Nat) s,(L.foldl lv s).wn=s.wn
 |[],_=>rfl
 |a::L,s=>by rw[aeJ,NQ L (lv s a)];rfl
theorem LO:∀(L:List Nat) (s:St) (b x:Nat),(L.foldl lv s).own b x=s.own b x\/(L.foldl lv s).own b x=0
 |[] => λ_ _ _=>.inl rfl
 |a::L=>λs b x=>by
  rw[aeJ];obtain e|e:=LO L (lv s a) b x
  ·by_cases q:b=a
   ·rw[e];exact .inr (uu q)
   ·rw[e];exact .inl (rf q)
  ·exact .inr e
theorem acq (h:Iv A O s M B cnt sh [] G)(hM:M<=7)(r:Rg A O s R p)(rb:∀c∈R,best A O s c<M)(zH:∃c∈R,p=s.wn c\/(0<s.sp (best A O s c)/\p=s.sp (best A O s c))\/(¬0<s.sp (best A O s c)/\p=s.own (nx A O s c) (best A O s c))):
  mu A M ((R.filter λa=>decide ((aP A O s R p).wn a=0)).foldl lv (aP A O s R p))<mu A M s:=by
 have p0:=r.p0;have ow:∀g x,(aP A O s R p).own g x<=s.own g x:=λg x=>by
  show s.own g x-p*cn R _<=_;have:=ad1 (Pf p0) (vo R λc=>decide (nx A O s c=g)&&(decide (best A O s c=x) && !decide (0<s.sp x)));lia
 have sw:∀x,(aP A O s R p).sp x<=s.sp x:=λx=>by
  show s.sp x-p*cn R _<=_;have:=ad1 (Pf p0) (vo R λc=>decide (best A O s c=x)&&decide (0<s.sp x));lia
 have ww:∀a,(aP A O s R p).wn a<=s.wn a:=λa=>by grind [pM]
 have o1:mO A M (aP A O s R p)<=mO A M s:=lI λa _=>lI λx _=>m9 (ow a x)
 have s1:mS M (aP A O s R p)<=mS M s:=lI λx _=>m9 (sw x)
 have w1:mW A (aP A O s R p)<=mW A s:=lI λa _=>m9 (ww a)
 cases hL:R.filter λa=>decide ((aP A O s R p).wn a=0)with
 |nil=>
  show mu A M (aP A O s R p)<_;obtain⟨c,hc,t⟩:=zH;unfold mu;obtain t|⟨q,t⟩|⟨q,t⟩:_:=t
  ·exfalso;have:c∈R.filter λa=>decide ((aP A O s R p).wn a=0):=B0.mpr ⟨hc,EO (by grind [pM])⟩
   grind
  ·have:mS M (aP A O s R p)<mS M s:=zG (λx _=>m9 (sw x)) (rb c hc) (by
    have e:(aP A O s R p).sp (best A O s c)<=0:=by
     show s.sp _-p*cn R _<=0;have c1:=Eg (p:=λd=>decide (best A O s d=best A O s c)&&decide (0<s.sp (best A O s c))) hc 'J';obtain⟨z,_⟩|⟨_,z,_⟩:_:=r.c2 (best A O s c)
     ·lia
     ·lia
    unfold bi;lia)
   lia
  ·have nA:=(r.rg _ (r.im c hc)).1;have:mO A M (aP A O s R p)<mO A M s:=zG (λa _=>lI λx _=>m9 (ow a x)) nA (zG (λx _=>m9 (ow _ x)) (rb c hc) (by
    have e:(aP A O s R p).own (nx A O s c) (best A O s c)<=0:=by
     show s.own _ _-p*cn R _<=0;have c1:=Eg (p:=λd=>decide (nx A O s d=nx A O s c)&&(decide (best A O s d=best A O s c) && !decide (0<s.sp (best A O s c)))) hc 'J';obtain⟨z,_⟩|⟨_,z,_⟩:=r.c1 (nx A O s c) (best A O s c)
     ·lia
     ·lia
    unfold bi;lia))
   lia
 |cons a L'=>
  rw[<- hL];have am:a∈R.filter λa=>decide ((aP A O s R p).wn a=0):='J'
  obtain⟨aR,aw⟩:=B0.mp am;have aw:=GS aw;generalize R.filter (λa=>decide ((aP A O s R p).wn a=0))=L;have w2:mW A (L.foldl lv (aP A O s R p))<mW A s:=by
   unfold mW;rw[NQ];refine zG (λb _=>m9 (ww b)) (r.rg a aR).1 ?_;unfold bi;rw[aw,rf 'Q',uu (r.rg a aR).2];decide
  have o2:mO A M (L.foldl lv (aP A O s R p))<=mO A M s:=lI λb hb=>lI λx hx=>by
   obtain e|e:=LO L (aP A O s R p) b x
   ·rw[e];exact m9 (ow b x)
   ·rw[e];exact m9 (h.o0 b x hb hx)
  have:=Pk M (L.foldl lv (aP A O s R p));have:=Pk M s;unfold mu;lia
def qZ (A:Nat)(B:Int)(cnt:Nat->Int)(sh:Nat->Nat->Int):St:=⟨sh,λx=>cnt x*B-sg A (λa=>sh a x),λ_ _=>0,λ_=>B⟩
theorem iv0 (hB : 0<B)(hs:∀a,a<A->(∀x,x<M->0<=sh a x)/\sg M (sh a)=B)(hc:∀x,x<M->sg A (λa=>sh a x)<=cnt x*B):∃G,Iv A O (qZ A B cnt sh) M B cnt sh [] G:=by
 have z:∀l,sl (λ_=>(0)) l=0:=λl=>by
  have:=u9 0 (λ_=>0) l
  simp_all
 have t0:∀x,fK A (qZ A B cnt sh) x=cnt x*B:=λx=>by
  show sg A (λa=>sh a x)+(cnt x*B-sg A (λa=>sh a x))=_;lia
 refine⟨(List.range M).filter λx=>decide (fK A (qZ A B cnt sh) x=0),λa x ha hx=>(hs a ha).1 x hx,λx hx=>?_,λ_ _ _ _=>aeZ _,λ_ _=>Pf hB,λx hx=>?_,λa ha=>?_,λa x ha hx hw=>?_,λa k ha hw=>?_,λa k ha hw=>?_,λa x y _ _ _ _ h=>absurd h (Int.lt_irrefl 0),λx hx=>?_,λa x y _ _ h=>absurd h (Int.lt_irrefl 0)⟩
 ·have:=hc x hx;show 0<=cnt x*B-_;lia
 ·rw[t0];show sg A (λ_=>0)+_=_;rw[uw];lia
 ·show sg M (λ_=>0)+B=B;rw[uw];lia
 ·have hw:B=0:=hw;lia
 ·show sl (sh a) _<=sl (λ_=>0) _+sl (sh a) _
  simp_all
 ·have hw:B=0:=hw;lia
 ·simp_all
theorem Yq (ok:Ok A O M)(h:Iv A O s M B cnt sh [] G)(hn:n<M)(hc:cnt n=A)(hB : 0<B)(hw:∀a,a<A->s.wn a=0)(ha:a<A)(hy:y<M)(hg : 0<s.got a y)(hb:Bf (O a) x y):x<M/\G.idxOf x<G.idxOf y/\x≠n/\sg A (λb=>s.got b x)=cnt x*B:=by
 obtain⟨j,h1,h2⟩:_:=id hb;have xm:=l9.mp ((ok a ha).mem_iff.mp (EN h2));have ix:=h.ef a x y ha hy hg hb;have xG:=LJ (zd ix List.idxOf_le_length);have tx:=(h.ga x xm).mp xG;have cx:=h.col x xm;refine⟨xm,ix,λe=>?_,'O'⟩;subst e;rw[hc]at cx;have gB:∀b,b<A->s.got b x<=B:=λb hb=>by
  have:=h.row b hb;have:=sI (λz hz=>h.g0 b z hb hz) xm
  simp_all
 have z0:sg A (λb=>B-s.got b x)=0:=by rw[sH,uw];lia
 have z2:=BE (λb hb=>'J') z0 a ha;have nxy:y≠x:=λe=>by
  simp_all
 have r:=h.row a ha;rw[hw a ha]at r;have:sg M (λz=>if z=x then s.got a x else if z=y then s.got a y else 0)<=sg M (s.got a):=lI λz hz=>by
  split
  ·simp_all
  ·split
   ·simp_all
   ·exact h.g0 a z ha hz
 rw[mI (g:=λz=>(if z=x then s.got a x else 0)+if z=y then s.got a y else 0) λz _=>?_,yV,pL,pL,uu xm,uu hy]at this
 ·lia
 ·lia
end
end af
namespace L2
open PySem PySem.Spec PyProof.Rows
def Mo (Φ:Hp->St->Prop):Prop:=∀G G' σ,aj G G'->Φ G σ->Φ G' σ
section
variable {F:aS ι}{pos:Pos}
def a8 (F:aS ι)(Φ:Hp->St->Prop)(e:Expr)(t:Tr):Prop:=∃τ:TE,(∀i,PE (F.cx i) e τ)/\∀σ G H (Q:VK),aj G H->Φ G σ->Kv F.K G H t Q->τ σ H Q
def iO (F:aS ι)(Φ:Hp->St->Prop)(c:Expr)(p:Bool):Prop:=∃τ:TT,(∀i,PT (F.cx i) c τ)/\∀σ G H (Q:Bool->Hp->Prop),aj G H->Φ G σ->(∀G' H',Step G H G' H'->Q p H')->τ σ H Q
def oA (F:aS ι)(Φ:Hp->St->Prop)(es:List Expr)(dd:List Dv):Prop:=∃τ:TA,(∀i,PA (F.cx i) es τ)/\∀σ G H (Q:List V->Hp->Prop),aj G H->Φ G σ->(∀vs G' H',Step G H G' H'->aH F.K G' dd vs->Q vs H')->τ σ H Q
def tf (F:aS ι)(Φ:Hp->St->Prop)(tg iter:Expr)(its:List Dv):Prop:=∃wi:TI,(∀i,PI (F.cx i) tg iter wi)/\∀σ G H (R:It->Hp->Prop),aj G H->Φ G σ->(∀J G' H',Step G H G' H'->Aq F.K G' J its->R J H')->wi σ H R
theorem Ev.p (h:Ev F e ρ t)(w:∀G σ,Φ G σ->aX F.K G ρ σ):a8 F Φ e t:=by obtain⟨τ,p,q⟩:=h;exact⟨τ,p,λσ G H Q s f k=>q σ G H Q s (w G σ f) k⟩
theorem Et.p (h:Et F e ρ q)(w:∀G σ,Φ G σ->aX F.K G ρ σ):iO F Φ e q:=by obtain⟨τ,p,q⟩:=h;exact⟨τ,p,λσ G H Q s f k=>q σ G H Q s (w G σ f) k⟩
theorem a8.use (h:a8 F Φ e t):∃τ,(∀i,PE (F.cx i) e τ)/\∀σ G H (Q:VK),aj G H->Φ G σ->(∀v G' H',Step G H G' H'->Hv F.K G' (er t) v->Q v H')->τ σ H Q:=by
 obtain⟨τ,p,q⟩:_:=h;exact⟨τ,p,λσ G H Q s r k=>q σ G H Q s r λv G' H' fq st o w=>k v (cD G' H' fq) H' (st.dM w) (o.hv (fm w.g) λa ha=>du ha)⟩
theorem a8.to (h:a8 F Φ e t)(z:t=t'):a8 F Φ e t':=z▸h
theorem iO.to (h:iO F Φ c p)(z:p=q):iO F Φ c q:=z▸h
theorem jK (j:Nat)(hC:i3 F.K C)(hf:jL F.K C f)(h:∀G σ,Φ G σ->∃m dx fs v,σ[j]?=some (some (.ref m))/\G m=some (.ins C dx fs)/\fs.lookup f=some v/\Hv F.K G d v)(hx:∀i,PE (F.cx i) (.Name x p1) (dC j))(hb:∀i,attributeBase (.Name x p1) f (F.cx i).env (eval (.Name x p1) (F.cx i).env)=eval (.Name x p1) (F.cx i).env:=by intro _;rfl):a8 F Φ (.Attribute (.Name x p1) f pos) (.fz d):=by
 refine⟨P6 F.K (dC j) f,λi=>F.hK i▸mV (hx i) (hb i),λσ G H Q s r k=>?_⟩;obtain⟨m,dx,fs,v,h1,h2,h3,h4⟩:_:=h G σ r;exact⟨_,h1,m,C,dx,fs,v,rfl,s _ _ h2,hC,hf,h3,k.dat s h4⟩
theorem LQ (mo:Mo Φ)(ho:∀i,cN (F.cx i) (binaryOp op) r)(ha:a8 F Φ a ta)(hb:a8 F Φ b tb')(h:∀G H x y Q,aj G H->Hv F.K G (er ta) x->Hv F.K G (er tb') y->Kv F.K G H t Q->r x y H Q):a8 F Φ (.BinOp a op b pos) t:=by
 obtain⟨τ,p,q⟩:_:=ha.use;obtain⟨bL,p',q'⟩:=hb.use;refine⟨iZ r τ bL,λi=>sQ (ho i) (p i) (p' i),λσ G H Q s rr k=>?_⟩;refine q σ G H _ s rr λx G1 H1 s1 hx=>q' σ G1 H1 _ s1.s (mo _ _ _ s1.g rr) λy G2 H2 s2 hy=>?_
 exact h G2 H2 x y Q s2.s (hx.mono s2.g) hy (k.step (s1.trans s2))
theorem Ds {c:Bool}(mo:Mo Φ)(ho:∀i,cN (F.cx i) (compareOp op) r)(ha:a8 F Φ a ta)(hb:a8 F Φ b tb')(h:∀G H x y (Q:VK),aj G H->Hv F.K G (er ta) x->Hv F.K G (er tb') y->Q (.bl c) H->r x y H Q)(hm:behindInMarks op b=false):iO F Φ (.Compare a [op] [b] pos) c:=by
 obtain⟨τ,p,q⟩:_:=ha.use;obtain⟨bL,p',q'⟩:=hb.use;refine⟨EK (iZ r τ bL),λi=>C3 (ho i) (p i) (p' i) hm,λσ G H Q s rr k=>?_⟩;refine q σ G H _ s rr λx G1 H1 s1 hx=>q' σ G1 H1 _ s1.s (mo _ _ _ s1.g rr) λy G2 H2 s2 hy=>?_
 exact h G2 H2 x y _ s2.s (hx.mono s2.g) hy ⟨c,rfl,k G2 H2 (s1.trans s2)⟩
theorem NR (mo:Mo Φ)(ha:a8 F Φ a (ti i))(hb:a8 F Φ b (ti j)):iO F Φ (.Compare a [.Gt] [b] pos) (decide (j<i)):=Ds mo (λ_=>EJ) ha hb (λG H x y Q s hx hy k=>⟨i,j,aO hx,aO hy,k⟩) (fN _)
theorem Z4 (mo:Mo Φ)(ha:a8 F Φ a ta)(hb:a8 F Φ b tb')(hk:uR (er ta) (er tb'))(hd:de (er ta)<=50):iO F Φ (.Compare a [.Eq] [b] pos) (bX (er ta) (er tb')):=
 Ds mo (λi=>F.hK i▸DR (F.hr i).units) ha hb (λG H x y Q s hx hy k=>⟨_,_,hk,hx.mono s,hy.mono s,hd,k⟩) (fN _)
theorem Z5 (mo:Mo Φ)(h:iO F Φ a p)(h2:p=true->iO F Φ b q):iO F Φ (.BoolOp .And [a,b] pos) (p&&q):=by
 obtain⟨τ,x,y⟩:_:=h;cases p with
 |false=>exact⟨vD τ _,λi=>(yH (x i) CA).pt,λσ G H Q s r k=>y σ G H _ s r λG' H' st=>lO (k G' H' st)⟩
 |true=>
  obtain⟨bL,x',y'⟩:=h2 rfl;exact⟨vD τ bL,λi=>(yH (x i) (KJ (x' i))).pt,λσ G H Q s r k=>y σ G H _ s r λG1 H1 s1=>lQ (y' σ G1 H1 _ s1.s (mo _ _ _ s1.g r) λG2 H2 s2=>k G2 H2 (s1.trans s2))⟩
theorem mZ (mo:Mo Φ)(ha:a8 F Φ a ta)(hb:a8 F Φ b (ti k))(ea:er ta=.lst xs)(hk:aF xs k=some d)(hs:uA b:=by exact λ_ _=>rfl):a8 F Φ (.Subscript a b pos) (.fz d):=by
 obtain⟨τ,p,q⟩:_:=ha.use;obtain⟨bL,p',q'⟩:=hb.use;refine⟨iZ (vH F.K) τ bL,λi=>ku (J4 (F.hK i)) (p i) (p' i) hs,λσ G H Q s rr k=>?_⟩;refine q σ G H _ s rr λx G1 H1 s1 hx=>q' σ G1 H1 _ s1.s (mo _ _ _ s1.g rr) λy G2 H2 s2 hy=>?_
 rw[ea]at hx;obtain⟨l,vs,rfl,h1,h2⟩:=hx;obtain⟨v,h3,h4⟩:=h2.at hk;exact⟨l,vs,_,v,rfl,aO hy,(s2.g.trans s2.s).seq h1,h3,(k.step (s1.trans s2)).dat s2.s (h4.mono s2.g)⟩
theorem abt (mo:Mo Φ)(hc:iO F Φ c p)(h1:p=true->a8 F Φ a t)(h2:p=false->a8 F Φ b t):a8 F Φ (.IfExp c a b pos) t:=by
 obtain⟨τ,x,y⟩:_:=hc;cases p with
 |true=>
  obtain⟨bL,x',y'⟩:=h1 rfl;exact⟨GB τ bL _,λi=>Cu (x i) (x' i) xZ,λσ G H Q s r k=>y σ G H _ s r λG1 H1 s1=>lQ (y' σ G1 H1 _ s1.s (mo _ _ _ s1.g r) (k.step s1))⟩
 |false=>
  obtain⟨bL,x',y'⟩:=h2 rfl;exact⟨GB τ _ bL,λi=>Cu (x i) xZ (x' i),λσ G H Q s r k=>y σ G H _ s r λG1 H1 s1=>lO (y' σ G1 H1 _ s1.s (mo _ _ _ s1.g r) (k.step s1))⟩
theorem rM:oA F Φ [] []:=⟨d8,λ_=>cR,λσ G H Q s _ k=>k [] G H (.refl s) rfl⟩
theorem mG (mo:Mo Φ)(ha:a8 F Φ a t)(hr:oA F Φ es dd)(hs:∀i,starEach (a::es) (F.cx i).env=(false,eval a (F.cx i).env)::starEach es (F.cx i).env:=by intro _;rfl):oA F Φ (a::es) (er t::dd):=by
 obtain⟨τ,p,q⟩:_:=ha.use;obtain⟨bL,p',q'⟩:=hr;refine⟨dH τ bL,λi=>cm (p i) (p' i) (hs i),λσ G H Q s rr k=>?_⟩;exact q σ G H _ s rr λx G1 H1 s1 hx=>q' σ G1 H1 _ s1.s (mo _ _ _ s1.g rr) λvs G2 H2 s2 hv=>k _ G2 H2 (s1.trans s2) ⟨_,_,rfl,hx.mono s2.g,hv⟩
theorem Yr (Fn:Kn F.P F.w F.K F.mg F.base bx k x f fd ps (spT F.K R))(hk:k<=F.room)(ha:oA F Φ (e::es) dd)(hR:R dd t){p':Pos}(hg:∀i,Gl (F.cx i) x:=by intro _;rfl)(eE:(x==("__debug__":PySem.Str))=false:=by decide)(he:∀i,starEach (e::es) (F.cx i).env=(false,eval e (F.cx i).env)::starEach es (F.cx i).env:=by intro _;rfl)(cJ:∀i,(backTo pos (starEach es (F.cx i).env)).any (·.1)=false:=by intro _;rfl):a8 F Φ (.Call (.Name x p') (e::es) [] pos) t:=by
 obtain⟨τ,y,z⟩:_:=ha;refine⟨sR (spT F.K R) [] E0 τ,λi=>?_,λσ G H Q s rr k=>z σ G H _ s rr λvs G1 H1 s1 hx=>?_⟩
 ·have jG:Kn (F.cx i).prog (F.cx i).w (F.cx i).K (F.cx i).mg (F.cx i).base bx k x f fd ps (spT F.K R):=by
   rw[F.hP i,F.hw i,F.hK i,F.hm i,F.hb i];omega
  exact EW jG ((F.hr i).mono hk) (hg i) (y i) eE (he i) (cJ i)
 ·rw[AS];exact⟨G1,dd,t,s1.s,hx,hR,k.step s1⟩
theorem BF (ha:a8 F Φ a t)(hs:∀i,starEach [a] (F.cx i).env=[(false,eval a (F.cx i).env)]):oA F Φ [a] [er t]:=by
 obtain⟨τ,p,q⟩:_:=ha.use;exact⟨dH τ d8,λi=>cm (p i) cR (hs i),λσ G H Q s rr k=>q σ G H _ s rr λx G1 H1 s1 hx=>k _ G1 H1 s1 ⟨_,_,rfl,hx,rfl⟩⟩
theorem Ck {elts:List Expr}{kk:Nat}{tp:Pos}(hm:F.mg "enumerate"=none)(ha:a8 F Φ a ta)(ea:er ta=.lst xs){p:Pos}(hg:∀i,Gl (F.cx i) "enumerate":=by intro _;rfl)(hs:∀i,starEach [a] (F.cx i).env=[(false,eval a (F.cx i).env)]:=by intro _;rfl):tf F Φ (.Tuple elts kk tp) (.Call (.Name "enumerate" p) [a] [] pos) (gL xs):=by
 obtain⟨τ,p,q⟩:_:=(BF ha hs)
 refine⟨F7 F.K τ,λi=>F.hK i▸Lg (hg i) ((F.hm i).symm▸hm) (p i) (hs i),λσ G H R s r k=>q σ G H _ s r λvs G1 H1 s1 hx=>?_⟩;obtain⟨x,rfl,h1⟩:=iA hx;rw[ea]at h1;obtain⟨l1,us,rfl,g1,g2⟩:=h1;have e1:=g2.length;refine⟨l1,us,rfl,s1.s.seq g1,k _ G1 H1 s1 λj G2 H2 sg sh=>⟨λd hd=>?_,λhz=>?_⟩⟩
 ·unfold gL at hd;rw[Pd]at hd;cases qx:xs[j]? with
  |none=>
   simp_all
  |some dx=>
   have lj:=(gz.mp qx).1;rw[qx,IF lj]at hd;cases hd;obtain⟨vx,x1,x2⟩:_:=g2.get qx;refine⟨⟨(sg.trans sh).seq g1,'O'⟩,?_⟩;intro x H3 z9;obtain⟨T,wx,hT,z1,rfl,rfl⟩:_:=z9;rw[x1]at z1;cases z1;exact⟨_,.new sh hT,T,_,rfl,cS.of bQ,_,_,rfl,⟨rfl,rfl⟩,_,_,rfl,(x2.mono sg).mono (aj.new (sh.free hT)),rfl⟩
 ·refine⟨(sg.trans sh).seq g1,?_⟩;rw[hz];unfold gL
  simp_all
def HL {κ:Type}(F:aS κ)(Φ:Hp->St->Prop)(ifs:List Expr)(b:Bool):Prop:=∃tt:TT,(∀i (pins:List (adV×Obj)) (s1:adX) (ao:St) (H1:Hp) (Q:Bool->Hp->Prop),Inv (F.cx i) pins ao H1 s1->tt ao H1 Q ->
   wpAny (model (F.cx i).prog (F.cx i).w) (F.cx i).A (mK ifs (F.cx i).env) (TP (F.cx i) pins ao Q) cO s1)/\∀σ G H Q,aj G H->Φ G σ->(∀G' H',Step G H G' H'->Q b H')->tt σ H Q
theorem Dt {F:aS κ}:HL F Φ [] true:=⟨K0,λi pins s1 ao H1 Q I h=>OZ pins s1 ao H1 Q I h,λσ G H Q s r k=>k G H (.refl s)⟩
theorem Z6 {F:aS κ}(h:iO F Φ c p)(hx:∀i,(F.cx i).xe=cO:=by intro _;rfl):HL F Φ [c] p:=by obtain⟨τ,x,y⟩:=h;exact⟨τ,λi pins s1 ao H1 Q I h=>O1 (x i) (hx i) pins s1 ao H1 Q I h,y⟩
theorem va (L:∀i,iR (F.cx i) sc (cl i) fr)(hi:tf F Φ tg iter its)(hg:ie (cz F own fr sc cl) tg js sp)(gT:∀j∈js,j<own.length)(p:Nat->Bool)(f:Nat->Tr)(hz:its.length<sizeLine)(mo:Mo Ψ)(h0:∀G σ,Φ G σ->Ψ G (mL own fr σ))(adf:∀G σ vs,Ψ G σ->Ψ G (a7 js vs σ))(step:∀k d,its[k]?=some d->∃dd,sp d=some dd/\HL (cz F own fr sc cl) (λG σ => ∃ao vs,Ψ G ao/\ao.length=own.length+fr.length/\aH F.K G dd vs/\σ=a7 js vs ao) ifs (p k)/\(p k=true->a8 (cz F own fr sc cl) (λG σ => ∃ao vs,Ψ G ao/\ao.length=own.length+fr.length/\aH F.K G dd vs/\σ=a7 js vs ao) elt (f k)))(hs:∀i x,foldedSetIterable iter (F.cx i).env x=pure x:=by intro _ _;rfl):a8 F Φ (.ListComp elt [⟨tg,iter,ifs,0⟩] sc pos) (.ow (((List.range its.length).filter p).map f)):=by
 obtain⟨wi,pi,qi⟩:_:=hi;obtain⟨g,pg,qg⟩:_:=hg;refine⟨Ai wi g (uL (cz F own fr sc cl) ifs) (uE (cz F own fr sc cl) elt) own fr,λi=>OX (L i) (F.calm i) (pi i) (λC s H ex pn=>pg (i,⟨C,s,H,ex,pn⟩)) (λC s H ex pn pins s1 ao H1 Q I h=>by
   obtain⟨tt,h1,h2⟩:=h;exact h1 (i,⟨C,s,H,ex,pn⟩) pins s1 ao H1 Q I h2) (λC s H ex pn=>dR (F:=cz F own fr sc cl) (i,⟨C,s,H,ex,pn⟩)) (hs i),λσ G H Q s r k=>?_⟩
 refine qi σ G H _ s r λJ G1 H1 s1 it acc dS=>?_
 have k1:=k.step s1;refine⟨λi m ys ao H2=>m=its.length-i/\i<=its.length/\ao.length=own.length+fr.length/\H2 acc=some (.lst ys)/\∃G2 fq,Step G1 H1 G2 H2/\aV F.K G2 H2 (((List.range i).filter p).map f) ys fq/\Nw H1 G2 (acc::fq)/\Ψ G2 ao,
  ⟨_,rfl,AM _,by simp[mL],bQ,G1,[],.jR s1.s dS,⟨rfl,rfl⟩,⟨λa ha=>by rw[BB.mp ha];exact dS,λa ha=>by rw[BB.mp ha];exact s1.s.free dS,'Y'⟩,mo _ _ _ s1.g (h0 G σ r)⟩,?_⟩
 intro i m ys ao H2 z9;obtain⟨rfl,hi,tI,kR,G2,fq,s2,o2,w2,r2⟩:_:=z9;have hlen:ys.length<sizeLine:=by
  rw[<- o2.length,aa];have:=WA p (List.range i);rw[vc]at this;lia
 refine⟨kR,hlen,?_⟩;obtain⟨i1,i2⟩:=it i G2 H2 s2.g s2.s;by_cases bD:i<its.length
 ·have hd:=ab bD;obtain⟨j1,j2⟩:=i1 _ hd;obtain⟨dd,e1,el,ev⟩:=step i _ hd;refine .inr ⟨j1,λzs cZ H3=>cZ.length=own.length+fr.length/\H3 acc=some (.lst zs)/\∃G3 fq,Step G1 H1 G3 H3/\aV F.K G3 H3 (((List.range (i+1)).filter p).map f) zs fq/\Nw H1 G3 (acc::fq)/\Ψ G3 cZ,
   λzs cZ H3 z=>⟨its.length-(i+1),'Z',rfl,bD,z⟩,λx H3 y=>?_⟩
  obtain⟨G3,s3,h3⟩:=j2 x H3 y;refine qg _ dd x ao G3 H3 _ e1 s3.s h3 λvs nK=>?_
  have rr:∀{Gx:Hp},aj G3 Gx->∃Gj nJ,Ψ Gx Gj/\Gj.length=own.length+fr.length/\aH F.K Gx dd nJ/\a7 js vs ao=a7 js nJ Gj:=λ{Gx} sx=>⟨ao,vs,mo _ _ _ (s3.g.trans sx) r2,tI,nK.mono sx,rfl⟩
  have rn:∀{Gx:Hp},aj G3 Gx->Ψ Gx (a7 js vs ao):=λ{Gx} sx=>adf _ _ _ (mo _ _ _ (s3.g.trans sx) r2)
  have vj:∀{Ga Ha Gb Hb:Hp} {fs:List adV},Step Ga Ha Gb Hb->(∀a∈fs,Ga a=none)->(∀a∈fs,∃o,Ha a=some o)->∀a∈fs,Gb a=none:=λ{Ga Ha Gb Hb fs} st h1 h2 a ha=>by
   cases q:Gb a with
   |none=>rfl
   |some u=>
    obtain⟨u',bp⟩:=h2 a ha;have:=st.n a (h1 a ha) (by rw[q];exact λz=>nomatch z);rw[bp]at this;cases this
  have qL:∀a∈acc::fq,∃o,H2 a=some o:=λa ha=>(ff.mp ha).elim (λz=>⟨_,z▸kR⟩) (o2.there a)
  have er:(List.range (i+1)).filter p=(List.range i).filter p++if p i=true then [i]else []:=by
   rw[List.range_succ,aej];congr 1;simp[aba]
  obtain⟨tt,pt,qt⟩:=el;refine⟨tt,pt,qt _ G3 H3 _ s3.s (rr (aj.refl _)) λG5 H5 s5=>?_⟩;have gU:=s3.trans s5;cases hp:p i with
  |false=>
   refine lO ⟨by rw[ud];exact tI,gU.h _ _ kR,G5,fq,s2.trans gU,?_,⟨w2.n,vj gU w2.g qL,w2.d⟩,?_⟩
   ·rw[er,hp,rf 'Q',AS];exact o2.mono gU.g gU.h
   ·exact rn s5.g
  |true=>
   obtain⟨te,pe,qe⟩:=ev hp;refine lQ ⟨te,pe,qe _ G5 H5 _ s5.s (rr s5.g) λv G6 H6 f6 s6 o6 w6=>?_⟩;have iI:=gU.trans s6;have GY:=iI.h _ _ kR;have qM:∀a∈f6,a∉acc::fq:=λa ha hb=>by
    obtain⟨u,hu⟩:=qL a hb;have:=gU.h _ _ hu;rw[w6.n a ha]at this;cases this
   have qN:=AE.mp w2.d;have g6:=vj iI w2.g qL;refine⟨GY,by rw[ud];exact tI,bQ,G6,fq++(f6++[]),⟨(s2.trans iI).g,λb u hb=>?_,λb u hb=>?_,(s2.trans iI).n⟩,?_,⟨λa ha=>?_,λa ha=>?_,?_⟩,?_⟩
   ·rw[aQ λz=>by subst z;rw[dS]at hb;cases hb];exact(s2.trans iI).h b u hb
   ·rw[aQ λz=>by subst z;rw[g6 _ (.head _)]at hb;cases hb];exact s6.s b u hb
   ·rw[er,hp,uu rfl,BN];refine aV.append ((o2.mono iI.g iI.h).frame qN.1) ⟨v,[],f6,[],rfl,rfl,o6.frame λz=>qM _ z (.head _),rfl,rfl⟩
   ·rw[AS]at ha;obtain z|z:=ff.mp ha
    ·exact w2.n a (z▸.head _)
    ·obtain z|z:=qr.mp z
     ·exact w2.n a (.tail _ z)
     ·exact(s2.trans gU).h.free (w6.n a z)
   ·rw[AS]at ha;obtain z|z:=ff.mp ha
    ·exact g6 a (z▸.head _)
    ·obtain z|z:=qr.mp z
     ·exact g6 a (.tail _ z)
     ·exact w6.g a z
   ·rw[AS];refine AE.mpr ⟨λz=>?_,ze.mpr ⟨qN.2,w6.d,λa ha b hb z=>?_⟩⟩
    ·obtain z|z:=qr.mp z
     ·exact qN.1 z
     ·exact qM _ z (.head _)
    ·subst z;exact qM a hb (.tail _ ha)
   ·exact rn (s5.trans s6).g
 ·have e:i=its.length:='O'
  subst e;refine .inl ⟨i2 rfl,k1 (.ref acc) G2 H2 (acc::fq) s2 ⟨acc,ys,fq,rfl,kR,o2,rfl⟩ w2⟩
theorem Kp {K:Frag}:∀{js:List Nat} {vs:List V} {σ:St},(∀j∈js,ρ[j]?=some none)->aX K G ρ σ->aX K G ρ (a7 js vs σ)
 |[],_,_,_,r=>r
 |_::_,[],_,_,r=>r
 |j::js,v::vs,σ,h,r=>Kp (js:=js) (λj hj=>h j (.tail _ hj)) λi d hd=>by
  have e:j≠i:=λz=>'J'
  rw[EU e];exact r i d hd
theorem Ys (h:j<own.length):(cH own fr ρ)[j]?=some none:=by
 unfold cH;rw[Cf (by rw[aa];exact h),l8,ab h];rfl
theorem se (L:∀i,iR (F.cx i) sc (cl i) fr)(w:∀G σ,Φ G σ->aX F.K G ρ σ)(hi:tf F Φ tg iter its)(hg:ie (cz F own fr sc cl) tg js sp)(gT:∀j∈js,j<own.length)(p:Nat->Bool)(f:Nat->Tr)(hz:its.length<sizeLine)(step:∀k d,its[k]?=some d->∃dd,sp d=some dd/\El (cz F own fr sc cl) ifs (a7 js (dd.map .fz) (cH own fr ρ)) (p k)/\(p k=true->Ev (cz F own fr sc cl) elt (a7 js (dd.map .fz) (cH own fr ρ)) (f k)))(hs:∀i x,foldedSetIterable iter (F.cx i).env x=pure x:=by intro _ _;rfl):a8 F Φ (.ListComp elt [⟨tg,iter,ifs,0⟩] sc pos) (.ow (((List.range its.length).filter p).map f)):=by
 refine va L hi hg gT p f hz (λG G' σ e r=>r.mono e) (λG σ h=>MY (w G σ h)) (λG σ vs r=>Kp (λj hj=>Ys (gT j hj)) r) (λk d hd=>?_) hs;obtain⟨dd,h1,h2,h3⟩:_:=step k d hd;have rp:∀G σ,(∃ao vs,aX F.K G (cH own fr ρ) ao/\ao.length=own.length+fr.length/\aH F.K G dd vs/\σ=a7 js vs ao)->aX F.K G (a7 js (dd.map .fz) (cH own fr ρ)) σ:=λG σ z9=>by
  obtain⟨ao,vs,r,l,hv,e⟩:_:=z9;rw[e];exact aX.a7 (λj hj=>by have:=gT j hj;lia) hv r
 refine⟨dd,h1,?_,λhp=>(h3 hp).p rp⟩;obtain⟨tt,a,b⟩:_:=h2;exact⟨tt,a,λσ G H Q s r k=>b σ G H Q s (rp G σ r) k⟩
def gg (K:Frag){S:Type}(Θ:S->Hp->adV->Prop)(R:S->List Dv->Tr->Prop):Sp:=λvs H Q _=>∃(G:Hp) (a:adV) (rest:List V) (st:S) (dd:List Dv) (t:Tr),vs=.ref a::rest/\aj G H/\Θ st G a/\aH K G dd rest/\R st dd t/\Kv K G H t Q
variable {st:S}{apos:Pos}{pl : ι->Sem Bool}
theorem yg (j:Nat)(hC:i3 F.K C)(hM:Meth F.K C m f)(Fn:bS F.P F.w F.K F.mg F.base bx k f fd ps (gg F.K Θ R))(hk:k<=F.room)(hb:Binds F.K fd ps [])(h:∀G σ,Φ G σ->∃a dx fs,σ[j]?=some (some (.ref a))/\G a=some (.ins C dx fs)/\fs.lookup m=none/\Θ st G a)(HM:∀G G' a,aj G G'->Θ st G a->Θ st G' a)(ha:oA F Φ (e::es) dd)(hR:R st dd t)(hx:∀i,PE (F.cx i) (.Name x p1) (dC j))(iG:∀i,starEach (e::es) (F.cx i).env=(false,eval e (F.cx i).env)::starEach es (F.cx i).env:=by intro _;rfl)(cJ:∀i,(backTo pos (starEach es (F.cx i).env)).any (·.1)=false:=by intro _;rfl)(ht:∀i,eval (.Call (.Attribute (.Name x p1) m apos) (e::es) [] pos) (F.cx i).env=(do
   let ov<-eval (.Name x p1) (F.cx i).env
   standAt apos.atName
   let (f,first)<-holding [ov] (getMethod ov m (pl i))
   callWith pos f first (backTo pos (starEach (e::es) (F.cx i).env)) (backToKw pos (keywordEach [] (F.cx i).env))):=by intro _;rfl):a8 F Φ (.Call (.Attribute (.Name x p1) m apos) (e::es) [] pos) t:=by
 obtain⟨τ,y,z⟩:_:=ha;refine⟨zq C m (gg F.K Θ R) [] E0 (dC j) τ,λi=>?_,λσ G H Q s rr k=>?_⟩
 ·have jG:bS (F.cx i).prog (F.cx i).w (F.cx i).K (F.cx i).mg (F.cx i).base bx k f fd ps (gg F.K Θ R):=by
   rw[F.hP i,F.hw i,F.hK i,F.hm i,F.hb i];exact Fn
  exact C4 (hx i) (F.hK i▸hC) (F.hK i▸hM) jG ((F.hr i).mono hk) (F.hK i▸hb) .nil m8 (y i) (iG i) (cJ i) (ht i)
 ·obtain⟨a,dx,fs,h1,h2,h3,h4⟩:_:=h G σ rr;refine⟨_,h1,a,dx,fs,rfl,s _ _ h2,h3,z σ G H _ s rr λvs G1 H1 s1 hv=>?_⟩;exact⟨G1,a,vs,st,dd,t,by rw[AS],s1.s,HM _ _ _ s1.g h4,hv,hR,k.step s1⟩
theorem xV (j:Nat)(hC:i3 F.K C)(hM:Meth F.K C m f)(Fn:bS F.P F.w F.K F.mg F.base bx k f fd ps (gg F.K Θ R))(hk:k<=F.room)(hb:Binds F.K fd ps [])(h:∀G σ,Φ G σ->∃a dx fs,σ[j]?=some (some (.ref a))/\G a=some (.ins C dx fs)/\fs.lookup m=none/\Θ st G a)(hR:R st [] t)(hx:∀i,PE (F.cx i) (.Name x p1) (dC j))(ht:∀i,eval (.Call (.Attribute (.Name x p1) m apos) [] [] pos) (F.cx i).env=(do
   let ov<-eval (.Name x p1) (F.cx i).env
   standAt apos.atName
   let (f,first)<-holding [ov] (getMethod ov m (pl i))
   callWith pos f first (backTo pos (starEach [] (F.cx i).env)) (backToKw pos (keywordEach [] (F.cx i).env))):=by intro _;rfl):a8 F Φ (.Call (.Attribute (.Name x p1) m apos) [] [] pos) t:=by
 refine⟨zq C m (gg F.K Θ R) [] E0 (dC j) d8,λi=>?_,λσ G H Q s rr k=>?_⟩
 ·have jG:bS (F.cx i).prog (F.cx i).w (F.cx i).K (F.cx i).mg (F.cx i).base bx k f fd ps (gg F.K Θ R):=by
   rw[F.hP i,F.hw i,F.hK i,F.hm i,F.hb i];omega
  exact Cw (hx i) (F.hK i▸hC) (F.hK i▸hM) jG ((F.hr i).mono hk) (F.hK i▸hb) .nil m8 (ht i)
 ·obtain⟨a,dx,fs,h1,h2,h3,h4⟩:_:=h G σ rr;exact⟨_,h1,a,dx,fs,rfl,s _ _ h2,h3,G,a,[],st,[],t,rfl,s,h4,rfl,hR,k⟩
end
theorem yW {K:Frag}{Θ:S->Hp->adV->Prop}{R:S->List Dv->Tr->Prop}(Fd:fE K x qual s0 dV f fd)(Sc:aY N ps (az s0))(hl:∀st dd t,R st dd t->dd.length+1=ps.length)(hps:∀τ,(∀i,PE ((jv P w K mg base N qual (az s0) f k).cx i) e τ)->∀i,gC ((jv P w K mg base N qual (az s0) f k).cx i) (dB s0) (vE τ))(hb:∀st dd t,R st dd t->a8 (jv P w K mg base N qual (az s0) f k) (λG σ => ∃a rest,σ=start N (.ref a::rest)/\Θ st G a/\aH K G dd rest) e t):bS P w K mg base bx (k+1) f fd ps (gg K Θ R):=by
 refine Fd.ok Sc (λvs H Q E z9=>by obtain⟨G,a,rest,st,dd,t,h1,_,_,h2,h3,_⟩:_:=z9;rw[h1,ID,<- h2.length];exact hl st dd t h3) λaN A outer s H vs Q E hr h=>?_
 obtain⟨G,a,rest,st,dd,t,rfl,s',HM,hv,hR,kv⟩:_:=h;obtain⟨τ,x,y⟩:=hb st dd t hR;exact⟨_,hps τ x ⟨aN,A,outer,s,H,E,hr⟩,y _ G H _ s' ⟨a,rest,rfl,HM,hv⟩ kv⟩
end L2
namespace au
open PySem L2 dA
theorem sk {N ps:List Str}{sc:Scope}(a:sc.kind=.function:=by rfl)(b:sc.isCoroutine=false:=by rfl)(c:sc.isGenerator=false:=by rfl)(d:N.Nodup:=by decide +kernel)(e:N.take ps.length=ps:=by rfl)(g:∀x∈ps,sc.names.lookup x=some .local\/sc.names.lookup x=some .cell:=by decide +kernel)(h:∀y∈sc.names,y.2≠.free:=by decide +kernel):aY N ps sc:=⟨a,b,c,d,e,g,h⟩
abbrev bN (K:Frag)(x:Str)(st:age)(f:adV)(fd:FuncData):Prop:=qD K x x st f fd
abbrev bM (P:agc)(w:agd)(K:Frag)(mg:Str->Option vn)(base:Heap)(k:Nat)(f:adV)(fd:FuncData)(ps:List Str)(R:List Dv->Tr->Prop):Prop:=bS P w K mg base bx (k+1) f fd ps (spT K R)
abbrev a9 (P:agc)(w:agd)(K:Frag)(mg:Str->Option vn)(base:Heap)(k:Nat)(x:Str)(f:adV)(fd:FuncData)(ps:List Str)(R:List Dv->Tr->Prop):Prop:=Kn P w K mg base bx (k+1) x f fd ps (spT K R)
abbrev bG:=List Dv->Tr->Prop
theorem bR {P:agc}{w:agd}{K:Frag}{mg:Str->Option vn}{base:Heap}{x qual:Str}{st:age}{dV:vn}{f:adV}{fd:FuncData}{N ps:List Str}{k:Nat}{R:List Dv->Tr->Prop}(Fd:fE K x qual st dV f fd)(S:aY N ps (az st))(hl:∀dd t,R dd t->dd.length=ps.length)(hb:∀dd t,R dd t->bt (jv P w K mg base N qual (az st) f k) (dB st) (GZ N dd) (.rt t)):bS P w K mg base bx (k+1) f fd ps (spT K R):=E9 Fd S hl λdd t h=>⟨_,.inl rfl,hb dd t h⟩
def top (i:Nat):age:=PySem.Challenge.pw_lotmeal_k26_bettered_again.main.body.getD i (.Pass ⟨0,0,0,0⟩)
structure Txt (mg:Str->Option vn):Prop where
 mw:mg "isinstance"=none
 Fo:mg "int"=none
 NS:mg "bool"=none
 gH:mg "list"=none
 LR:mg "tuple"=none
 bU:mg "len"=none
 eG:mg "range"=none
 Fp:mg "zip"=none
 Pl:mg "any"=none
 mB:mg "enumerate"=none
 Pm:mg "set"=none
 Fq:mg "abs"=none
 Fs:mg "sum"=none
 CK:mg "sorted"=none
 Ws:mg "reversed"=none
 adO:mg "str"=none
 Pn:mg "min"=none
 abu:∃tk,mg "MOST"=some (.int 6 tk)
 Vr:∃tk,mg "MOST_COUNT"=some (.int 9 tk)
section
def aJ (n:Nat):LI:=(List.range n).map λi=>0+((i:Nat):Int)
theorem CL:x∈aJ n↔0<=x/\x<n:=by
 unfold aJ
 constructor
 ·grind
 ·rintro⟨h0,h1⟩;exact i8.mpr ⟨x.toNat,l9.mpr 'O','O'⟩
theorem xQ (n:Nat):(aJ n).Nodup:=by
 unfold aJ;rw[List.nodup_iff_pairwise_ne,OF];exact(aeh (n:=n)).imp λh z=>h 'O'
abbrev Bd:age:=top 9
theorem xH:aY ["one", "other", "rest"] ["one", "other"] (az Bd):=sk
def Ft:bG:=λdd t=>∃a b:Int,0<=a/\0<=b/\dd=[di a,di b]/\t=ti (gc a b)
theorem Uw (F:bN K "common_part" Bd f fd)(T:Txt mg):bM P w K mg base k f fd ["one", "other"] Ft:=by
 refine bR F.d xH 'H' λdd t h=>?_
 obtain⟨a,b,ha,hb,rfl,rfl⟩:=h;refine xK (λp:Int×Int=>[some (ti p.1),some (ti p.2),none]) (λp=>0<=p.1/\0<=p.2/\gc p.1 p.2=gc a b) (λp=>!decide (p.2=0)) (λp=>p.2.toNat) (a,b) rfl ⟨ha,hb,rfl⟩ (λp hp=>Et.s (sS (ae 1 rfl) ai)) (λp hp h=>?_) (λp hp h=>?_)
 ·obtain⟨x,y⟩:=p;obtain⟨h1,h2,h3⟩:=hp;have hy:y≠0:='J'
  have l1:=LS x (show 0<y by lia);have l2:=Sk x hy;refine⟨(y,x%y),⟨h2,l2,?_⟩,?_,bt.fg (aq (aT 2 (Ev.s (dQ (ae 0 rfl) (ae 1 rfl) 'O')) (λ_=>xH.nd)) (aq (aT 0 (Ev.s (ae 1 rfl)) (λ_=>xH.nd)) (ay (aT 1 (Ev.s (ae 2 rfl)) (λ_=>xH.nd))))) ⟨[2],rfl⟩⟩
  ·rw[Lj];exact h3
  ·lia
 ·obtain⟨x,y⟩:=p;obtain⟨h1,h2,h3⟩:=hp;have hy0:y=0:='O'
  have h3':=h3;have e:gc a b=x:=by grind [Li]
  rw[e];exact ay (cu (Ev.s (ae 0 rfl)))
abbrev BQ:age:=top 8
theorem VO:aY ["number"] ["number"] (az BQ):=sk
def Kq:bG:=λdd t=>∃n:Int,dd=[di n]/\t=tb true
theorem VP (F:bN K "is_whole" BQ f fd)(T:Txt mg):bM P w K mg base k f fd ["number"] Kq:=by
 refine bR F.d VO 'H' λdd t h=>?_
 obtain⟨n,rfl,rfl⟩:=h;exact ay (cu (Ev.s (Ev.to (yQ (mY T.mw T.Fo DT (ae 0 rfl) (by with_unfolding_all rfl)) λ_=>(sC (MV (p:=false) (mY T.mw T.NS Lc (ae 0 rfl) (by with_unfolding_all rfl))))) rfl)))
abbrev iP:age:=top 10
theorem Jk:aY ["top", "bottom", "part"] ["top", "bottom"] (az iP):=sk
def lJ:bG:=λdd t=>∃a b:Int,0<b/\b.natAbs<2^8000/\dd=[di a,di b]/\t=tF (lT a b,lB a b)
theorem VQ (F:fE K "fraction" "fraction" iP dV f fd)(T:Txt mg)(Jr:a9 P w K mg base k "is_whole" f1 cG ["number"] Kq)(Be:a9 P w K mg base k "common_part" f2 fd2 ["one", "other"] Ft):bM P w K mg base (k+1) f fd ["top", "bottom"] lJ:=by
 refine E9 F Jk 'H' λdd t h=>?_
 obtain⟨a,b,hb,hz,rfl,rfl⟩:=h;refine⟨_,.inl rfl,?_⟩;refine aq (cQ (Et.s (Ew.et (gY (ji (fO (aU Jr (br _) (ag (ae 0 rfl) ak) ⟨a,rfl,rfl⟩))) λ_=>(ko (ji (fO (aU Jr (br _) (ag (ae 1 rfl) ak) ⟨b,rfl,rfl⟩))))))) rfl) ?_;refine aq (cQ (Et.s (gX (ae 1 rfl) ai)) (LF 'O')) ?_;have ha : 0<=(if a<0 then -a else a):='O'
 have nL : 0<=(if b<0 then -b else b):='O'
 have eg:gc (if a<0 then -a else a) (if b<0 then -b else b)=gc a b:=by
  rw[show(if a<0 then -a else a)=(a.natAbs) by lia,show(if b<0 then -b else b)=(b.natAbs) by lia,aa7]
 have gp:=sE (a:=a) (show b≠0 by lia);have gl:=Dc (a:=a) hb;refine aq (aT 2 (bB.to (t':=ti (gc a b)) (Ev.s (aU Be (br _) (ag (DV T.Fq (ae 0 rfl)) (ag (DV T.Fq (ae 1 rfl)) ak)) ⟨_,_,ha,nL,rfl,rfl⟩)) (by rw[eg])) (λ_=>Jk.nd)) ?_;refine aq (cQ (Et.s (pQ (ae 1 rfl) ai)) (LF 'O')) ?_;have cd:∀i,vf i (gc a b):=λi=>⟨gp,LP 'O' hz⟩
 refine ay (cu (Ev.s (kg (ag (iu (ae 0 rfl) (ae 2 rfl) (cd _)) (ag (iu (ae 1 rfl) (ae 2 rfl) (cd _)) ak)) ?_ (by show 2<=sizeLine;decide))));show[di (a/gc a b),di (b/gc a b)]=_;rw[M9 hb,Nb hb]
abbrev Ej:age:=top 11
theorem Z7:aY ["one", "other"] ["one", "other"] (az Ej):=sk
def lC (p:Int×Int):Prop:=0<p.2/\p.2.natAbs<2^90/\p.1.natAbs<2^90
def vp:bG:=λdd t=>∃p q:Int×Int,lC p/\lC q/\dd=[dF p,dF q]/\t=tF (lT (p.1*q.2+q.1*p.2) (p.2*q.2),lB (p.1*q.2+q.1*p.2) (p.2*q.2))
theorem fR {a:Int}(h:a.natAbs<2^n)(hn:n<=8000):a.natAbs<2^8000:=zd h (afe 'Q' hn)
theorem NT {b:Int}(h1:a.natAbs<2^m)(h2:b.natAbs<2^n):(a*b).natAbs<2^(m+n):=by
 simp_all [aex,Nat.pow_add,Nat.mul_lt_mul'']
theorem Z8 (F:bN K "plus" Ej f fd)(T:Txt mg)(mC:a9 P w K mg base (k+1) "fraction" f1 cG ["top", "bottom"] lJ):bM P w K mg base (k+2) f fd ["one", "other"] vp:=by
 refine bR F.d Z7 'H' λdd t h=>?_
 obtain⟨p,q,⟨p1,p2,p3⟩,⟨q1,q2,q3⟩,rfl,rfl⟩:_:=h;have jX:∀r:Int×Int,aF [di r.1,di r.2] 0=some (di r.1):=λ_=>rfl
 have jY:∀r:Int×Int,aF [di r.1,di r.2] 1=some (di r.2):=λ_=>rfl
 exact ay (cu (Ev.s (aU mC (br _) (ag (fA (km (bF (ae 0 rfl) ai rfl (jX p)) (bF (ae 1 rfl) ai rfl (jY q)) ⟨fR p3 'Q',fR q2 'Q'⟩) (km (bF (ae 1 rfl) ai rfl (jX q)) (bF (ae 0 rfl) ai rfl (jY p)) ⟨fR q3 'Q',fR p2 'Q'⟩)) (ag (km (bF (ae 0 rfl) ai rfl (jY p)) (bF (ae 1 rfl) ai rfl (jY q)) ⟨fR p2 'Q',fR q2 'Q'⟩) ak)) ⟨_,_,Int.mul_pos p1 q1,fR (NT p2 q2) 'Q',rfl,rfl⟩)))
abbrev A4:age:=top 19
theorem A0:aY ["orders", "many", "asker", "order"] ["orders", "many"] (az A4):=sk
def NU:bG:=λdd t=>∃(os:LL) (n:Int),(∀o∈os,o.Nodup/\o.length<=100/\∀x∈o,0<=x/\x<n)/\dd=[.lst (os.map dis),di n]/\t=tn
theorem LU {α:Type}(l:List α)(f : α->Bool):er (.ow (l.map λk=>Tr.fz (db (f k))))=.lst ((l.map f).map db):=by
 rw[fu,i4];rfl
theorem Ul (F:bN K "check_orders" A4 f fd)(T:Txt mg):bM P w K mg base k f fd ["orders", "many"] NU:=by
 refine E9 F.d A0 'H' λdd t h=>?_
 obtain⟨os,n,ho,rfl,rfl⟩:=h;refine⟨_,.inr ⟨rfl,[some (.fz (.lst (os.map dis))),some (ti n),none,none],rfl⟩,?_⟩;have big:=cw;refine aq (dY (bb.s (rL T.mB (ae 0 rfl) rfl)) (iT 2 3 (λ_=>A0.nd)) (λ_=>[some (.fz (.lst (os.map dis))),some (ti n),none,none]) rfl (λ_=>rfl) (λj d hd=>?_)) ?_
 ·obtain⟨x,hx,rfl⟩:=lz hd;obtain⟨o,jB,rfl⟩:=gn hx;obtain⟨o1,o2,o3⟩:=ho o (ba jB);refine⟨_,_,rfl,ay (cQ (Et.s (fO (Nc T.Pl (fQ (own:=["thing"]) (fr:=[1]) o di (λx=>tb (decide (x<0)||decide (n<=x))) (λi=>cv) (cy (ae 3 rfl) rfl) (bu 0 (λ_=>bT)) 'Q' 'O' (λx hx=>⟨_,rfl,O3 (EX (ae 0 rfl) ai) λ_=>sC (ab5 (ae 0 rfl) (ae 1 rfl))⟩) (λdd=>by cases dd<;>rfl)) (LU o _)))) ?_),[2,3],rfl⟩
  simp_all
 refine aq (dY (bb.s (rL T.mB (ae 0 rfl) rfl)) (iT 2 3 (λ_=>A0.nd)) (λ_=>[some (.fz (.lst (os.map dis))),some (ti n),none,none]) rfl (λ_=>rfl) (λj d hd=>?_)) mN;obtain⟨x,hx,rfl⟩:=lz hd;obtain⟨o,jB,rfl⟩:=gn hx;obtain⟨o1,o2,o3⟩:=ho o (ba jB);refine⟨_,_,rfl,ay (cQ (Et.s (sS (W7 T.bU T.Pm (ae 3 rfl) rfl 'O') (bY T.bU (ae 3 rfl) (.inl rfl)))) ?_),[2,3],rfl⟩
 grind [Vm]
abbrev BR:age:=top 20
theorem VR:aY ["counts", "orders"] ["counts", "orders"] (az BR):=sk
def Qs:bG:=λdd t=>∃(c:LI) (os:LL),eK c os/\dd=[dis c,.lst (os.map dis)]/\t=.tp [aA c,jm os]
theorem VS (F:bN K "table_of" BR f fd)(T:Txt mg)(Ux:a9 P w K mg base k "check_orders" f1 cG ["orders", "many"] NU):bM P w K mg base (k+1) f fd ["counts", "orders"] Qs:=by
 refine bR F.d VR 'H' λdd t h=>?_
 obtain⟨c,os,ok,rfl,rfl⟩:=h;have big:=cw;have c6:=ok.c6;have o6:=ok.o6;have o1:=ok.o1;obtain⟨tk,gm⟩:=T.abu;obtain⟨tk2,w4⟩:=T.Vr;refine aq (cQ (Et.s (Ew.et (gY (kx (bY T.bU (ae 0 rfl) (.inl rfl)) (C7 gm ⟨_,rfl⟩ rfl)) λ_=>(ko (kx (bY T.bU (ae 1 rfl) (.inl rfl)) (C7 gm ⟨_,rfl⟩ rfl)))))) ?_) ?_
 ·grind
 refine aq (cQ (Et.s (gX (bY T.bU (ae 1 rfl) (.inl rfl)) ai)) ?_) ?_
 ·grind
 refine aq (cQ (Et.s (fO (Nc T.Pl (fQ (own:=["count"]) (fr:=[]) c di (λx=>tb (decide (x<0)||decide (9<x))) (λi=>cv) (cy (ae 0 rfl) rfl) (bu 0 (λ_=>bT)) 'Q' 'O' (λx hx=>⟨_,rfl,by exact O3 (EX (ae 0 rfl) ai) λ_=>sC (ab4 (ae 0 rfl) (C7 w4 ⟨_,rfl⟩ rfl))⟩) (λdd=>by cases dd<;>rfl)) (LU c _)))) ?_) ?_
 ·rw[List.any_eq_false];intro b hb;obtain⟨x,hx,rfl⟩:=i8.mp hb;obtain⟨x0,x1⟩:=ok.cnt x hx
  simp_all
 refine aq (Y8 (Ev.s (aU Ux (br _) (ag (ae 1 rfl) (ag (bY T.bU (ae 0 rfl) (.inl rfl)) ak)) ⟨os,c.length,λo ho=>⟨ok.nd o ho,Cs (ok.gN ho) 'Q',ok.bK o ho⟩,?_,rfl⟩))) ?_
 rotate_left
 ·rw[aa];rfl
 refine ay (cu (Ev.s (Ev.to (pI (ag (mM T.gH (ae 0 rfl) (.inl rfl)) (ag (fQ (own:=["order"]) (fr:=[]) os dis aA (λi=>cv) (cy (ae 1 rfl) rfl) (bu 0 (λ_=>bT)) 'Q' 'O' (λo ho=>⟨_,rfl,Ev.to (mM T.gH (ae 0 rfl) (.inl rfl)) 'J'⟩) (λdd=>by cases dd<;>rfl)) ak)) (by grind)) 'J')))
abbrev Bt:age:=top 21
theorem Bg:aY ["table", "asker", "many", "order"] ["table", "asker"] (az Bt):=sk
def Fu:bG:=λdd t=>∃(c:LI) (os:LL) (a:Int) (o:LI),c.length<=100/\o.length<=100/\aF os a=some o/\dd=[fF c os,di a]/\t=aA (aG c.length o)
theorem Du (f : α->β)(h:aF l k=some x):aF (l.map f) k=some (f x):=by
 unfold aF at h ⊢;rw[aa];cases q:dW l.length k with
 |none=>rw[q]at h;cases h
 |some j=>
  rw[q]at h;show(l.map f)[j]?=_;have h':l[j]?=some x:=h;rw[l8,h'];rfl
theorem UX (F:bN K "full_order" Bt f fd)(T:Txt mg):bM P w K mg base k f fd ["table", "asker"] Fu:=by
 refine bR F.d Bg 'H' λdd t h=>?_
 obtain⟨c,os,a,o,h1,h2,h3,rfl,rfl⟩:_:=h;have big:=cw;refine aq (aT 2 (Ev.s (bY T.bU (bF (ae 0 rfl) ai rfl rfl) (.inl rfl))) (λ_=>Bg.nd)) ?_;refine aq (aT 3 (Ev.s (bj (bF (ae 0 rfl) ai rfl rfl) (ae 1 rfl) rfl (Du dis h3))) (λ_=>Bg.nd)) ?_;rw[aa];refine ay (cu (Ev.s (Ev.to (sy (sy (ae 3 rfl) (cf (ag (ae 2 rfl) ak) (by grind)) rfl rfl ?_) (zr (own:=["thing"]) (fr:=[3]) (λi=>cv) (gj T.eG (ae 2 rfl) ⟨'O','O'⟩) (bu 0 (λ_=>bT)) 'Q' (λk=>!o.contains (0+((k)))) (λk=>ti (0+((k)))) ?_ (λk d hd=>?_) (λdd=>?_)) (fP _) (pJ _ _) ?_) ?_)))
 ·show(o.map di).length+1<=sizeLine
  grind
 ·grind
 ·obtain⟨hi,rfl⟩:=mP hd;exact⟨_,rfl,jj (nU (ae 0 rfl) (ae 1 rfl) rfl (by with_unfolding_all rfl)),λ_=>ae 0 rfl⟩
 ·cases dd<;>rfl
 ·have e:(ju 0 ((c.length):Int).toNat).length=c.length:='Y'
  rw[e];show((o.map di)++[di _]).length+((jn c.length o).map di).length<=sizeLine
  grind [B7]
 ·have e:(ju 0 ((c.length):Int).toNat).length=c.length:='Y'
  rw[e];show Tr.ow ((((o.map di)++[di _])++((jn c.length o).map di)).map .fz)=Tr.ow ((o++[(c.length:Int)]++jn c.length o).map _);simp[i4]
  rfl
def cj (aK:LI)(x:Int):Int:=aK.getD x.toNat 0
def bH (aK:LI)(full:LI)(k:Nat):Int:=((full.take k).map (cj aK)).sum
theorem xW (h:full[k]?=some x):bH aK full (k+1)=bH aK full k+cj aK x:=by
 simp_all [bH,kc]
structure fD (W:Int) (n:Nat) (aK:LI):Prop where
 w0 : 0<W
 w1:W<2^70
 len:aK.length=n+1
 t0:∀t∈aK,0<=t/\t<=W
theorem ph (h:fD W n aK)(x:Int) : 0<=cj aK x/\cj aK x<=W:=by
 unfold cj;rw[ir];cases q:aK[x.toNat]? with
 |none=>exact⟨aeZ _,Pf h.w0⟩
 |some t=>exact h.t0 t (ba q)
theorem Dw (h:fD W n aK)(full:LI):∀k,0<=bH aK full k/\bH aK full k<=k*W
 |0=>by show 0<=(0)/\(0)<=((0))*W;lia
 |k+1=>by
  have ih:=Dw h full k;cases q:full[k]? with
  |none=>
   have hk:full.length<=k:=by
    simp_all
   have e:bH aK full (k+1)=bH aK full k:=by grind [bH,List.take_of_length_le]
   have:=h.w0
   grind
  |some x=>
   rw[xW q];have:=ph h x;lia
theorem rowAt (h:fD W n aK){x:Int}(x0 : 0<=x)(x1:x<=n):aF ((aK.map (fW W)).map dF) x=some (dF (fW W (cj aK x))):=by
 obtain⟨m,rfl⟩:∃m:Nat,x=(m):=⟨x.toNat,'O'⟩
 have hm:m<aK.length:=by rw[h.len];lia
 refine dh ?_;unfold cj;rw[l8,l8,ir,BY,ab hm];rfl
theorem Z9 {n:Nat}{o:LI}(h:∀x∈o,0<=x/\x<n):∀x∈aG n o,0<=x/\x<=n:=λx hx=>by
 grind [aG,jn]
theorem Yt {n:Nat}(o:LI):(aG n o).length<=o.length+1+n:=by
 have:=B7 n o;unfold aG;simp only[xw,WJ];lia
def dD (W:Int)(aK:LI):Dv:=.lst ((aK.map (fW W)).map dF)
theorem NV (p:Int×Int):iK (dF p)=true:=rfl
theorem vb (p:Int×Int):de (dF p)<=1:=ae9 (uF λd hd=>by
  obtain rfl|hd:=ff.mp hd
  ·exact br _
  ·rw[BB.mp hd];exact br _)
theorem Fv (c:Int):(lT c 1,lB c 1)=(c,1):=by
 have:=CB (t:=c) (b:=1) 'Q' 'Q' 'Y' rfl;rw[<- this.1,<- this.2]
end
section
abbrev A5:age:=top 35
theorem Um:aY ["_law_script", "_law_k"] ["_law_script", "_law_k"] (az A5):=sk
def Fw:bG:=λdd t=>∃(ns:LI) (k:Int),0<=k/\dd=[dis ns,di k]/\t=ti (fb ns k)
theorem Uo (F:bN K "_law_cell_at" A5 f fd)(T:Txt mg):bM P w K mg base k f fd ["_law_script", "_law_k"] Fw:=by
 refine bR F.d Um 'H' λdd t h=>?_
 obtain⟨ns,j,hj,rfl,rfl⟩:=h;by_cases hl:j<ns.length
 ·refine rQ (jM (Et.s (pQ (ae 1 rfl) (bY T.bU (ae 0 rfl) (.inl rfl)))) ?_ (ay (cu (Ev.s (bj (ae 0 rfl) (ae 1 rfl) rfl ?_)))))
  ·simp_all
  ·exact cell_in hj hl
 ·refine aq (cQ (Et.s (pQ (ae 1 rfl) (bY T.bU (ae 0 rfl) (.inl rfl)))) ?_) ?_
  ·simp_all
  ·grind [cell_out,ay,cu,Ev.s,ai]
def d9 (cell:Int):Nat->Int×LI
 |0=>(cell%2147483629+7,[])
 |k+1=>(((d9 cell k).1*(d9 cell k).1+48271*(d9 cell k).1+(0+((k:Nat):Int)))%2147483647,(d9 cell k).2++[((d9 cell k).1*(d9 cell k).1+48271*(d9 cell k).1+(0+((k:Nat):Int)))%2147483647/16])
def cX (cell:Int)(n:Nat):LI:=(d9 cell n).2
theorem pE (cell:Int):∀k,0<=(d9 cell k).1/\(d9 cell k).1<2147483648/\(d9 cell k).2.length=k
 |0=>by
  show 0<=cell%2147483629+7/\cell%2147483629+7<2147483648/\_;exact⟨'O','O',rfl⟩
 |k+1=>by
  obtain⟨_,_,h⟩:=pE cell k;refine⟨Sk _ 'Q',Int.lt_trans (LS _ 'Q') 'Q',?_⟩;show((d9 cell k).2++[_]).length=_;rw[xw,h];rfl
abbrev Bh:age:=top 36
theorem t6:aY ["_law_cell", "_law_many", "_law_drawn_here", "_law_found", "_law_k"] ["_law_cell", "_law_many"] (az Bh):=sk
def uI:bG:=λdd t=>∃(cell:Int) (n:Nat),n<=100/\dd=[di cell,di n]/\t=aA (cX cell n)
theorem Uy (F:bN K "_law_stream" Bh f fd)(T:Txt mg):bM P w K mg base k f fd ["_law_cell", "_law_many"] uI:=by
 refine bR F.d t6 'H' λdd t h=>?_
 obtain⟨cell,n,hn,rfl,rfl⟩:=h;have big:=cw;refine aq (aT 2 (Ev.s (fA (dQ (ae 0 rfl) ai 'Q') ai)) (λ_=>t6.nd)) ?_;refine aq (aT 3 (Ev.s (cf ak (AM _))) (λ_=>t6.nd)) ?_;refine aq (dY (bb.s (gj T.eG (ae 1 rfl) ⟨'O','O'⟩)) (bu 4 (λ_=>t6.nd)) (λk=>[some (ti cell),some (ti n),some (ti (d9 cell k).1),some (aA (d9 cell k).2),none]) rfl (λ_=>rfl) (λj d hd=>?_)) ?_
 ·obtain⟨hj,rfl⟩:=mP hd;obtain⟨d0,d1,dl⟩:=pE cell j;have e:d9 cell (j+1)=(((d9 cell j).1*(d9 cell j).1+48271*(d9 cell j).1+(0+((j:Nat))))%2147483647,(d9 cell j).2++[((d9 cell j).1*(d9 cell j).1+48271*(d9 cell j).1+(0+((j))))%2147483647/16]):=rfl;rw[e];generalize d9 cell j=s at d0 d1 dl;obtain⟨x,l⟩:=s;refine⟨_,_,rfl,aq (aT 2 (Ev.s (dQ (fA (fA (Lk (ae 2 rfl) (ae 2 rfl) (.inl ⟨'O','O'⟩)) (Lk ai (ae 2 rfl) (.inr ⟨'O','O'⟩))) (ae 4 rfl)) ai 'Q')) (λ_=>t6.nd))
   (ay (iQ 3 rfl (Ev.s (iu (ae 2 rfl) ai ⟨'Q',lh 'Q' 'Q'⟩)) (by grind))),[4],?_⟩
  show[_,_,_,some (Tr.ow (_++[_])),_]=[_,_,_,some (Tr.ow _),_]
  simp_all
 ·rw[aa,vc];exact ay (kh 3 rfl)
def cM (pR:LI)(left:LI):Nat->LI×LI
 |0=>(left,[])
 |k+1=>((cM pR left k).1.eraseIdx ((pR.getD k 0)%(cM pR left k).1.length).toNat,(cM pR left k).2++[(((cM pR left k).1)[((pR.getD k 0)%(cM pR left k).1.length).toNat]?).getD 0])
theorem Cm (sm left:LI):∀k,k<=left.length->((cM sm left k).2++(cM sm left k).1).Perm left/\(cM sm left k).1.length=left.length-k/\(cM sm left k).2.length=k
 |0=>λ_=>⟨.refl _,'X',rfl⟩
 |k+1=>λhk=>by
  obtain⟨h1,h2,h3⟩:=Cm sm left k 'O';have e:cM sm left (k+1)=((cM sm left k).1.eraseIdx ((sm.getD k 0)%(cM sm left k).1.length).toNat,(cM sm left k).2++[(((cM sm left k).1)[((sm.getD k 0)%(cM sm left k).1.length).toNat]?).getD 0]):=rfl;rw[e];generalize cM sm left k=s at *;obtain⟨l,o⟩:=s;generalize sm.getD k 0=c;have hl : 0<l.length:=by grind
  have m1:=LS c (show 0<(l.length:Int) by lia)
  grind [Jp]
def m7 (cell:Int)(n:Nat):LI:=
 if(cX (cell/4) (n+2)).getD n 0%3=0 then cutD (cM (cX (cell/4) (n+2)) (aJ n) n).2 none (some ((cX (cell/4) (n+2)).getD (n+1) 0%((n:Int)+1)))else (cM (cX (cell/4) (n+2)) (aJ n) n).2
theorem lq (n:Nat):(aJ n).length=n:=by grind [aJ]
theorem Wt (cell:Int)(n:Nat):(m7 cell n).Sublist (cM (cX (cell/4) (n+2)) (aJ n) n).2:=by
 unfold m7;split
 ·exact(aeq _ _).trans (afT _ _)
 ·simp_all
theorem Xj (cell:Int)(n:Nat):(m7 cell n).Nodup/\∀x∈m7 cell n,0<=x/\x<n:=by
 grind [Cm,aJ,Wt,xQ]
abbrev Bu:age:=top 37
theorem rF:aY ["_law_cell", "_law_many", "_law_some", "_law_left_here", "_law_order_here", "_law_k"] ["_law_cell", "_law_many"] (az Bu):=sk
def NW:bG:=λdd t=>∃(cell:Int) (n:Nat),n<=6/\dd=[di cell,di n]/\t=aA (m7 cell n)
theorem UY (F:bN K "_law_order" Bu f fd)(T:Txt mg)(oV:a9 P w K mg base k "_law_stream" f1 cG ["_law_cell", "_law_many"] uI):bM P w K mg base (k+1) f fd ["_law_cell", "_law_many"] NW:=by
 refine bR F.d rF 'H' λdd t h=>?_
 obtain⟨cell,n,hn,rfl,rfl⟩:=h;have big:=cw;have sl:(cX (cell/4) (n+2)).length=n+2:=(pE (cell/4) (n+2)).2.2;have adg:=Cm (cX (cell/4) (n+2)) (aJ n);have tj:m7 cell n=if(cX (cell/4) (n+2)).getD n 0%3=0 then cutD (cM (cX (cell/4) (n+2)) (aJ n) n).2 none (some ((cX (cell/4) (n+2)).getD (n+1) 0%((n:Int)+1)))else (cM (cX (cell/4) (n+2)) (aJ n) n).2:=rfl
 generalize m7 cell n=res at tj;have acr:[di (cell/4),di ((n:Int)+2)]=[di (cell/4),di ((n+2:Nat):Int)]:=rfl;refine aq (aT 2 (Ev.s (Ev.as (d:=dis (cX (cell/4) (n+2))) (aU oV (br _) (ag (iu (ae 0 rfl) ai ⟨'Q',lh 'Q' 'Q'⟩) (ag (fA (ae 1 rfl) ai) ak)) ⟨cell/4,n+2,'O',acr,rfl⟩) (bP _))) (λ_=>rF.nd)) ?_;generalize cX (cell/4) (n+2)=sm at *;have Gk:∀m:Nat,m<n+2->aF (sm.map di) ((m:Nat):Int)=some (di (sm.getD m 0)):=λm hm=>dh (by
  rw[l8,ab 'O',ir,ab 'O'];rfl)
 refine aq (aT 3 (Ev.s (xM T.gH T.eG (ae 1 rfl) 'O' 'O')) (λ_=>rF.nd)) ?_;refine aq (aT 4 (Ev.s (cf ak (AM _))) (λ_=>rF.nd)) ?_;refine aq (dY (bb.s (gj T.eG (ae 1 rfl) ⟨'O','O'⟩)) (bu 5 (λ_=>rF.nd)) (λk=>[some (ti cell),some (ti n),some (.fz (dis sm)),some (aA (cM sm (aJ n) k).1),some (aA (cM sm (aJ n) k).2),none]) rfl (λ_=>rfl) (λj d hd=>?_)) ?_
 ·obtain⟨hj,rfl⟩:=mP hd;have oP:j<n:='O'
  obtain⟨p1,p2,p3⟩:_:=adg j (by rw[lq];lia);rw[lq]at p2;have e:cM sm (aJ n) (j+1)=((cM sm (aJ n) j).1.eraseIdx ((sm.getD j 0)%(cM sm (aJ n) j).1.length).toNat,(cM sm (aJ n) j).2++[(((cM sm (aJ n) j).1)[((sm.getD j 0)%(cM sm (aJ n) j).1.length).toNat]?).getD 0]):=rfl;have sj:aF (sm.map di) (0+(j:Int))=some (di (sm.getD j 0)):=by
   have:=Gk j 'O';rwa [ad5]
  rw[e];generalize cM sm (aJ n) j=s at p1 p2 p3;obtain⟨l,o⟩:=s;generalize sm.getD j 0=c at sj;simp only at p1 p2 p3 ⊢;have hl : 0<(l.length:Int):='O'
  have m0:=Sk c (show(l.length:Int)≠0 by lia);have m1:=LS c hl;have el:(fh (l.map λn=>Tr.fz (di n))).length=l.length:=by rw[pC,aa,aa]
  refine⟨_,_,rfl,ay (UR 4 3 (d:=di ((l[(c%l.length).toNat]?).getD 0)) (n:=c%l.length) (m:=(c%l.length).toNat) 'Q' rfl rfl (bB.to (t':=ti (c%l.length)) (Ev.pk (dQ (bj (ae 2 rfl) (ae 5 rfl) rfl sj) (bY T.bU (ae 3 rfl) (.inl rfl)) (by rw[el];exact hl)) True.intro) (by rw[el])) ?_ ⟨'O','O'⟩ ?_ ?_),[5],?_⟩
  ·rw[aa];unfold dW;rw[uu m0,uu m1]
  ·rw[l8,ab (show(c%l.length).toNat<l.length by lia)]
   rfl
  ·rw[aa];lia
  ·show[_,_,_,some (Tr.ow (List.eraseIdx _ _)),some (Tr.ow (_++[_])),_]=[_,_,_,some (Tr.ow _),some (Tr.ow _),_]
   rw[BN,B9]
   rfl
 ·rw[aa,vc,BY];generalize hp:(cM sm (aJ n) n).2=pp at tj;have s1:=Gk n 'O';have s2:=Gk (n+1) 'O';have s2':=s2;cases h3:decide (sm.getD n 0%3=0)with
  |true=>
   rw[uu (GS h3)]at tj;refine aq (jM (Et.s (gX (dQ (bj (ae 2 rfl) (ae 1 rfl) rfl s1) ai 'Q') ai)) h3 (ay (aT 4 (bB.to (t':=aA res) (Ev.pk (x9 (ae 4 rfl) (bP pp) C8 (uD (dQ (bj (ae 2 rfl) (fA (ae 1 rfl) ai) rfl s2') (fA (ae 1 rfl) ai) 'O'))) ?_) ?_) (λ_=>rF.nd)))) (ay (kh 4 rfl))
   ·rw[yd,mQ];exact yw _
   ·rw[yd,mQ,tj]
  |false=>
   rw[rf (afF h3)]at tj;rw[tj];exact aq (cQ (Et.s (gX (dQ (bj (ae 2 rfl) (ae 1 rfl) rfl s1) ai 'Q') ai)) h3) (ay (kh 4 rfl))
theorem Yu {l:List α}{x : α}:aF (l++[x]) (-1)=some x:=by
 unfold aF dW;rw[rf 'Q',uu (by simp;lia)];show(l++[x])[_]?=_;have e:(-1+((l++[x]).length:Int)).toNat=l.length:=by grind
 simp_all
theorem eq_nil {α:Type}(f : α->Dv):∀L:List α,bX (.lst (L.map f)) (.lst [])=L.isEmpty
 |[] => rfl
 |_::_=>rfl
def pS (L:LL):LI:=L.getLast?.getD []
theorem Xk (h:L.isEmpty=false):aF (L.map dis) (-1)=some (dis (pS L)):=by
 obtain rfl|⟨l,x,rfl⟩:=List.eq_nil_or_concat L
 ·cases h
 ·unfold pS;rw[List.map_concat,List.concat_eq_append,Yu,List.concat_eq_append,List.getLast?_append];rfl
theorem Xl (h:L.isEmpty=false):pS L∈L:=by
 obtain rfl|⟨l,x,rfl⟩:=List.eq_nil_or_concat L
 ·cases h
 ·unfold pS
  simp_all
def gw (cells:LI)(n:Nat):Nat->LL
 |0=>[]
 |k+1=>gw cells n k++[if decide (cells.getD k 0%4=0) && !(gw cells n k).isEmpty then pS (gw cells n k)else m7 (cells.getD k 0) n]
theorem Dx (cells:LI)(n:Nat):∀k,(gw cells n k).length=k/\∀o∈gw cells n k,o.Nodup/\∀x∈o,0<=x/\x<n
 |0=>⟨rfl,λ_ h=>nomatch h⟩
 |k+1=>by
  obtain⟨h1,h2⟩:=Dx cells n k;refine⟨by show(gw cells n k++[_]).length=_;rw[xw,h1];rfl,λo ho=>?_⟩;have jB:=ho;obtain z|z:=qr.mp jB
  ·exact h2 o z
  ·rw[BB]at z;subst z;split
   ·rename_i q
    rw[Lo]at q;exact h2 _ (Xl (by have:=q.2;revert this;cases (gw cells n k).isEmpty<;>decide))
   ·exact Xj _ _
abbrev Bi:age:=top 38
theorem A7:aY ["_law_cells", "_law_many", "_law_orders_here", "_law_cell"] ["_law_cells", "_law_many"] (az Bi):=sk
def LV:bG:=λdd t=>∃(cells:LI) (n:Nat),n<=6/\cells.length<=100/\dd=[dis cells,di n]/\t=jm (gw cells n cells.length)
theorem Uz (F:bN K "_law_orders" Bi f fd)(T:Txt mg)(Vs:a9 P w K mg base (k+1) "_law_order" f1 cG ["_law_cell", "_law_many"] NW):bM P w K mg base (k+2) f fd ["_law_cells", "_law_many"] LV:=by
 refine bR F.d A7 'H' λdd t h=>?_
 obtain⟨cells,n,hn,hc,rfl,rfl⟩:=h;have big:=cw;refine aq (aT 2 (Ev.s (cf ak (AM _))) (λ_=>A7.nd)) ?_;refine aq (dY (bb.s (cy (ae 0 rfl) rfl)) (bu 3 (λ_=>A7.nd)) (λk=>[some (.fz (dis cells)),some (ti n),some (jm (gw cells n k)),none]) rfl (λ_=>rfl) (λj d hd=>?_)) ?_
 ·obtain⟨c,hcj,rfl⟩:=gn hd;have ec:cells.getD j 0=c:='J'
  obtain⟨l1,l2⟩:=Dx cells n j;have e:gw cells n (j+1)=gw cells n j++[if decide (cells.getD j 0%4=0) && !(gw cells n j).isEmpty then pS (gw cells n j)else m7 (cells.getD j 0) n]:=rfl;rw[e,ec];generalize gw cells n j=L at l1 l2;have fin:∀o,some (jm (L++[o]))=some (.ow (L.map aA++[aA o])):=λo=>by
   simp_all
  rw[fin];have hz:(L.map aA).length<sizeLine:=by grind
  have RJ:de (er (jm L))<=50:=by grind [nV,Kc]
  cases hq:decide (c%4=0) && !L.isEmpty with
  |true=>
   have hL:L.isEmpty=false:=by
    lia
   refine⟨_,_,rfl,ay (jM (Et.pk (Ew.et (pH (gX (dQ (ae 3 rfl) ai 'Q') ai) λ_=>(pD (kn (ae 2 rfl) (cf ak (AM _)) ?_ RJ))))) ?_ (ay (iQ 2 rfl (bB.to (t':=aA (pS L)) (Ev.pk (mM T.gH (bj (ae 2 rfl) (mX ai) (nV L) (Xk hL)) (.inl rfl)) (by rw[mQ];exact yw _)) 'J') hz))),[3],rfl⟩
   ·exact .inl ⟨_,_,rfl,rfl⟩
   ·grind [er,nV,eq_nil]
  |false=>
   refine⟨_,_,rfl,ay (DW (Et.pk (Ew.et (pH (gX (dQ (ae 3 rfl) ai 'Q') ai) λ_=>(pD (kn (ae 2 rfl) (cf ak (AM _)) ?_ RJ))))) ?_ (ay (iQ 2 rfl (Ev.s (aU Vs (br _) (ag (ae 3 rfl) (ag (ae 1 rfl) ak)) ⟨c,n,hn,rfl,rfl⟩)) hz))),[3],rfl⟩
   ·exact .inl ⟨_,_,rfl,rfl⟩
   ·rw[<- hq,nV L];show(_ && !bX (.lst (L.map dis)) (.lst []))=_;rw[eq_nil]
 ·rw[aa];exact ay (kh 2 rfl)
def lS (x:Int):Int:=([1,1,0,2,1,3,1,x/8%10]:LI).getD (x%8).toNat 0
theorem aac (x:Int):aF ([1,1,0,2,1,3,1,x/8%10].map di) (x%8)=some (di (lS x)):=by
 unfold lS;obtain⟨m,hm⟩:∃m:Nat,x%8=(m):=⟨(x%8).toNat,'O'⟩
 rw[hm,BY];have:m<8:='O'
 refine dh ?_;rw[l8,ir,ab (this)];rfl
theorem aad (x:Int) : 0<=lS x/\lS x<=9:=by
 have c:=Sk (x/8) (show(10)≠0 by decide);have d:=LS (x/8) (show(0)<10 by decide);unfold lS;obtain⟨m,hm⟩:∃m:Nat,x%8=(m):=⟨(x%8).toNat,'O'⟩
 rw[hm,BY];generalize x/8%10=y at c d;have:m=0\/m=1\/m=2\/m=3\/m=4\/m=5\/m=6\/m=7:='O'
 obtain rfl|rfl|rfl|rfl|rfl|rfl|rfl|rfl:=this<;>first|exact⟨show(0)<=1 by decide,show(1)<=9 by decide⟩|exact⟨show(0:Int)<=0 by decide,show(0)<=9 by decide⟩|exact⟨show(0:Int)<=2 by decide,show(2)<=9 by decide⟩|exact⟨show(0)<=3 by decide,show(3)<=9 by decide⟩|exact⟨c,show y<=9 by lia⟩
abbrev Bj:age:=top 39
theorem A8:aY ["_law_cell", "_law_many", "_law_found", "_law_one"] ["_law_cell", "_law_many"] (az Bj):=sk
def Dy (cell:Int)(n:Nat):LI:=(cX cell n).map lS
def LW:bG:=λdd t=>∃(cell:Int) (n:Nat),n<=100/\dd=[di cell,di n]/\t=aA (Dy cell n)
theorem UA (F:bN K "_law_counts" Bj f fd)(T:Txt mg)(oV:a9 P w K mg base k "_law_stream" f1 cG ["_law_cell", "_law_many"] uI):bM P w K mg base (k+1) f fd ["_law_cell", "_law_many"] LW:=by
 refine bR F.d A8 'H' λdd t h=>?_
 obtain⟨cell,n,hn,rfl,rfl⟩:=h;have big:=cw;have sl:(cX cell n).length=n:=(pE cell n).2.2;refine aq (aT 2 (Ev.s (cf ak (AM _))) (λ_=>A8.nd)) ?_;refine aq (dY (bb.s (cy (aU oV (br _) (ag (ae 0 rfl) (ag (ae 1 rfl) ak)) ⟨cell,n,hn,rfl,rfl⟩) (bP _))) (bu 3 (λ_=>A8.nd)) (λk=>[some (ti cell),some (ti n),some (aA (((cX cell n).map lS).take k)),none]) rfl (λ_=>rfl) (λj d hd=>?_)) ?_
 ·obtain⟨x,hx,rfl⟩:=gn hd;have kK:((cX cell n).map lS)[j]?=some (lS x):=by rw[l8,hx];rfl
  have hl:(((cX cell n).map lS).take j).length<=100:=by rw[Lm,aa];lia
  rw[kc kK];refine⟨_,_,rfl,ay (iQ 2 rfl (Ev.s (bj (cf (ag ai (ag ai (ag ai (ag ai (ag ai (ag ai (ag ai (ag (dQ (iu (ae 3 rfl) ai ⟨'Q',lh 'Q' 'Q'⟩) ai 'Q') ak)))))))) (by show 8<=sizeLine;decide)) (dQ (ae 3 rfl) ai 'Q') rfl (aac x))) (by rw[aa];lia)),[3],?_⟩;show[_,_,some (Tr.ow (_++[_])),_]=[_,_,some (Tr.ow _),_]
  rw[BN];rfl
 ·rw[aa,List.take_of_length_le (by rw[aa];exact br _)];exact ay (kh 2 rfl)
end
section
abbrev A9:age:=top 40
theorem IU:aY ["_law_one", "_law_other"] ["_law_one", "_law_other"] (az A9):=sk
def Kr:bG:=λdd t=>∃a b:Int,0<=a/\0<=b/\dd=[di a,di b]/\t=ti (gc a b)
theorem Up (F:bN K "_law_divisor" A9 f fd)(T:Txt mg):bM P w K mg base k f fd ["_law_one", "_law_other"] Kr:=by
 refine bR F.d IU 'H' λdd t h=>?_
 obtain⟨a,b,ha,hb,rfl,rfl⟩:=h;refine xK (λp:Int×Int=>[some (ti p.1),some (ti p.2)]) (λp=>0<=p.1/\0<=p.2/\gc p.1 p.2=gc a b) (λp=>decide (0<p.2)) (λp=>p.2.toNat) (a,b) rfl ⟨ha,hb,rfl⟩ (λp hp=>Et.s (kx (ae 1 rfl) ai)) (λp hp h=>?_) (λp hp h=>?_)
 ·obtain⟨x,y⟩:=p;obtain⟨h1,h2,h3⟩:=hp;have hy : 0<y:='J'
  have l1:=LS x hy;have l2:=Sk x (show y≠0 by lia);refine⟨(y,x%y),⟨h2,l2,?_⟩,?_,ay (aa5 0 1 (Ev.s (ae 1 rfl)) (Ev.s (dQ (ae 0 rfl) (ae 1 rfl) hy)) (λ_=>IU.nd))⟩
  ·rw[Lj];exact h3
  ·lia
 ·obtain⟨x,y⟩:=p;obtain⟨h1,h2,h3⟩:=hp;have hy0:y=0:=by
   lia
  have h3':=h3;have e:gc a b=x:=by grind [Li]
  rw[e];exact ay (cu (Ev.s (ae 0 rfl)))
abbrev Bk:age:=top 41
theorem IZ:aY ["_law_top", "_law_bottom", "_law_by"] ["_law_top", "_law_bottom"] (az Bk):=sk
theorem UB (F:bN K "_law_lowest" Bk f fd)(T:Txt mg)(UC:a9 P w K mg base k "_law_divisor" f1 cG ["_law_one", "_law_other"] Kr):bM P w K mg base (k+1) f fd ["_law_top", "_law_bottom"] lJ:=by
 refine bR F.d IZ 'H' λdd t h=>?_
 obtain⟨a,b,hb,hz,rfl,rfl⟩:_:=h;have ha : 0<=(if a<0 then -a else a):='O'
 have eg:gc (if a<0 then -a else a) b=gc a b:=by
  rw[show(if a<0 then -a else a)=(a.natAbs) by lia]
  rfl
 have gp:=sE (a:=a) (show b≠0 by lia);have gl:=Dc (a:=a) hb;refine aq (aT 2 (bB.to (t':=ti (gc a b)) (Ev.s (aU UC (br _) (ag (DV T.Fq (ae 0 rfl)) (ag (ae 1 rfl) ak)) ⟨_,b,ha,'O',rfl,rfl⟩)) (by rw[eg])) (λ_=>IZ.nd)) ?_;have cd:∀i,vf i (gc a b):=λi=>⟨gp,LP 'O' hz⟩
 refine ay (cu (Ev.s (kg (ag (iu (ae 0 rfl) (ae 2 rfl) (cd _)) (ag (iu (ae 1 rfl) (ae 2 rfl) (cd _)) ak)) ?_ (by show 2<=sizeLine;decide))));show[di (a/gc a b),di (b/gc a b)]=_;rw[M9 hb,Nb hb]
theorem zU (l:LI)(m:Nat)(v:Int):(l.map λn=>Tr.fz (di n)).set m (ti v)=(l.set m v).map λn=>Tr.fz (di n):='J'
theorem qh {l:LI}{x:Int}(x0 : 0<=x)(x1:x<l.length):aF (l.map di) x=some (di (l.getD x.toNat 0)):=by
 obtain⟨m,rfl⟩:∃m:Nat,x=(m):=⟨x.toNat,'O'⟩
 refine dh ?_;rw[l8,ir,BY,ab 'O'];rfl
theorem w8 {n:Nat}{x:Int}(x0 : 0<=x)(x1:x<n):dW n x=some x.toNat:=by grind [dW]
def kD (sm:LI)(n A k:Nat)(s:LI×LI):LI×LI:=
 if decide (sm.getD k 0%((n:Int)+1)<n)&&decide (0<s.1.getD (sm.getD k 0%((n:Int)+1)).toNat 0)then (s.1.set (sm.getD k 0%((n:Int)+1)).toNat (s.1.getD (sm.getD k 0%((n:Int)+1)).toNat 0-1),s.2.set (((0:Int)+(k:Int)+sm.getD A 0)%A).toNat (sm.getD k 0%((n:Int)+1)))else s
def iC (sm:LI)(c:LI)(A:Nat):Nat->LI×LI
 |0=>(c,(aJ A).map λ_=>(c.length:Int))
 |k+1=>kD sm c.length A k (iC sm c A k)
theorem yA (sm c:LI)(A:Nat):∀k,(iC sm c A k).1.length=c.length/\(iC sm c A k).2.length=A/\∀x∈(iC sm c A k).2,0<=x/\x<=c.length
 |0=>⟨rfl,by show((aJ A).map _).length=A;rw[aa,lq],λx hx=>by
  obtain⟨_,_,rfl⟩:=i8.mp hx;lia⟩
 |k+1=>by
  obtain⟨h1,h2,h3⟩:=yA sm c A k;show(kD sm c.length A k (iC sm c A k)).1.length=_/\(kD sm c.length A k (iC sm c A k)).2.length=_/\∀x∈(kD sm c.length A k (iC sm c A k)).2,_;have a:=Sk (sm.getD k 0) (show(c.length:Int)+1≠0 by lia);have b:=LS (sm.getD k 0) (show 0<(c.length:Int)+1 by lia);unfold kD;split
  ·refine⟨by rw[PM];exact h1,by rw[PM];exact h2,λx hx=>?_⟩;obtain z|z:=US hx
   ·exact h3 x z
   ·lia
  ·exact⟨h1,h2,h3⟩
def qj (cell:Int)(c:LI)(A:Nat):LI:=(iC (cX (cell/4) (A+1)) c A A).2
abbrev A1:age:=top 43
theorem rA:aY ["_law_cell", "_law_counts_here", "_law_askers", "_law_some", "_law_left_here", "_law_deal", "_law_k", "_law_want"] ["_law_cell", "_law_counts_here", "_law_askers"] (az A1):=sk
def Pq:bG:=λdd t=>∃(cell:Int) (c:LI) (A:Nat),c.length<=6/\1<=A/\A<=6/\dd=[di cell,dis c,di A]/\t=aA (qj cell c A)
theorem Ud (F:bN K "_law_any_deal" A1 f fd)(T:Txt mg)(oV:a9 P w K mg base k "_law_stream" f1 cG ["_law_cell", "_law_many"] uI):bM P w K mg base (k+1) f fd ["_law_cell", "_law_counts_here", "_law_askers"] Pq:=by
 refine bR F.d rA 'H' λdd t h=>?_
 obtain⟨cell,c,A,c6,a1,a6,rfl,rfl⟩:=h;have big:=cw;unfold qj;have sl:(cX (cell/4) (A+1)).length=A+1:=(pE _ _).2.2;refine aq (aT 3 (Ev.s (Ev.as (d:=dis (cX (cell/4) (A+1))) (aU oV (br _) (ag (iu (ae 0 rfl) ai ⟨'Q',lh 'Q' 'Q'⟩) (ag (fA (ae 2 rfl) ai) ak)) ⟨cell/4,A+1,'O',rfl,rfl⟩) (bP _))) (λ_=>rA.nd)) ?_;generalize cX (cell/4) (A+1)=sm at sl;refine aq (aT 4 (bB.to (t':=aA c) (Ev.s (mM T.gH (ae 1 rfl) (.inl rfl))) (by rw[mQ])) (λ_=>rA.nd)) ?_;refine aq (uV 5 (zR (ig.to (t':=aA ((aJ A).map λ_=>(c.length:Int))) (Qj (own:=["_law_k"]) (fr:=[1]) (aJ A) di (λ_=>ti c.length) (bb.to (gj T.eG (ae 2 rfl) ⟨'O','O'⟩) ?_) (bu 0 (λ_=>bT)) 'Q' (by rw[lq];lia) (λx hx=>⟨_,rfl,by exact Ev.to (bY T.bU (ae 1 rfl) (.inl rfl)) (by rw[aa])⟩) (λdd=>by cases dd<;>rfl)) ?_)) (λi=>cv) (λ_=>rA.nd)) ?_
 ·rw[BY];unfold aJ;rw[i4];rfl
 ·show Tr.ow _=Tr.ow _;rw[i4];rfl
 have lU:(((c.map di).length:Nat):Int)=c.length:=by rw[aa]
 refine aq (dY (bb.s (gj T.eG (ae 2 rfl) ⟨'O','O'⟩)) (bu 6 (λ_=>rA.nd)) (λk=>[some (ti cell),some (.fz (dis c)),some (ti A),some (.fz (dis sm)),some (aA (iC sm c A k).1),some (aA (iC sm c A k).2),none,none]) rfl (λ_=>rfl) (λj d hd=>?_)) ?_
 ·obtain⟨hj,rfl⟩:=mP hd;rw[BY]at hj;obtain⟨h1,h2,h3⟩:=yA sm c A j;have e:iC sm c A (j+1)=kD sm c.length A j (iC sm c A j):=rfl;rw[e];generalize iC sm c A j=s at h1 h2 h3;obtain⟨left,eS⟩:=s;simp only at h1 h2 h3 ⊢;have sA:aF (sm.map di) (A:Int)=some (di (sm.getD A 0)):=by
   have:=qh (l:=sm) (x:=(A:Int)) 'O' 'O';rwa [BY]at this
  have sj:aF (sm.map di) (0+(j:Int))=some (di (sm.getD j 0)):=by
   have:=qh (l:=sm) (x:=(j:Int)) 'O' 'O';rw[BY]at this;rwa [ad5]
  have ma:=Sk (0+(j:Int)+sm.getD A 0) (show(A:Int)≠0 by lia);have mb:=LS (0+(j:Int)+sm.getD A 0) (show 0<(A:Int) by lia);have r0:=Sk (sm.getD j 0) (show(c.length:Int)+1≠0 by lia);have r1:=LS (sm.getD j 0) (show 0<(c.length:Int)+1 by lia);have hl:∀x:Int,0<=x->x<c.length->aF (left.map di) x=some (di (left.getD x.toNat 0)):=λx x0 x1=>qh x0 'O'
  have eT:kD sm c.length A j (left,eS)=if decide (sm.getD j 0%((c.length:Int)+1)<c.length)&&decide (0<left.getD (sm.getD j 0%((c.length:Int)+1)).toNat 0)then (left.set (sm.getD j 0%((c.length:Int)+1)).toNat (left.getD (sm.getD j 0%((c.length:Int)+1)).toNat 0-1),eS.set (((0:Int)+(j:Int)+sm.getD A 0)%A).toNat (sm.getD j 0%((c.length:Int)+1)))else (left,eS):=rfl
  refine⟨_,[some (ti cell),some (.fz (dis c)),some (ti A),some (.fz (dis sm)),some (aA (kD sm c.length A j (left,eS)).1),some (aA (kD sm c.length A j (left,eS)).2),some (ti (0+(j:Int))),some (ti (sm.getD j 0%((c.length:Int)+1)))],rfl,?_,[6,7],rfl⟩;refine aq (aT 7 (bB.to (t':=ti (sm.getD j 0%((c.length:Int)+1))) (Ev.s (dQ (bj (ae 3 rfl) (ae 6 rfl) rfl sj) (fA (bY T.bU (ae 1 rfl) (.inl rfl)) ai) 'O')) (by rw[lU])) (λ_=>rA.nd)) ?_;generalize sm.getD j 0%((c.length:Int)+1)=x at r0 r1 eT;have RK:decide (x<(((c.map di).length:Nat):Int))=decide (x<(c.length:Int)):=by rw[lU]
  cases hq:decide (x<c.length)&&decide (0<left.getD x.toNat 0)with
  |true=>
   rw[hq,uu rfl]at eT;rw[eT];have xl:x<c.length:=by rw[Lo]at hq;exact GS hq.1
   refine ay (jM (Et.pk (Ew.et (pH (pQ (ae 7 rfl) (bY T.bU (ae 1 rfl) (.inl rfl))) λhp=>(pD (kx (bj (d:=di (left.getD x.toNat 0)) (ae 4 rfl) (ae 7 rfl) (bP left) (hl x r0 (by have:=GS hp;lia))) ai))))) (by rw[RK];exact hq) (aq (ye 4 (n:=x) (m:=x.toNat) rfl (Ev.s (ae 7 rfl)) (w8 r0 (by rw[aa];lia)) (Ev.pk (DU (bj (ae 4 rfl) (ae 7 rfl) (bP left) (hl x r0 xl)) ai) True.intro) (hps:=λi=>nZ (pv 4) (dR i) set_list)) ?_));rw[zU];refine aq (ye 5 (n:=(0+(j:Int)+sm.getD A 0)%A) rfl (Ev.s (dQ (fA (ae 6 rfl) (bj (ae 3 rfl) (ae 2 rfl) rfl sA)) (ae 2 rfl) 'O')) (w8 ma (by rw[aa];lia)) (Ev.s (ae 7 rfl)) (hps:=λi=>nZ (pv 5) (dR i) set_list)) ?_;rw[zU];exact mN
  |false=>
   rw[hq,rf 'Q']at eT;rw[eT];exact ay (cQ (Et.pk (Ew.et (pH (pQ (ae 7 rfl) (bY T.bU (ae 1 rfl) (.inl rfl))) λhp=>(pD (kx (bj (d:=di (left.getD x.toNat 0)) (ae 4 rfl) (ae 7 rfl) (bP left) (hl x r0 (by have:=GS hp;lia))) ai))))) (by rw[RK];exact hq))
 ·rw[aa,vc,BY];exact ay (kh 5 rfl)
def gI (n:Nat)(a:Int)(s:LI×LI)(x:Int):LI×LI:=
 if decide (s.2.getD a.toNat 0=(n:Int))&&decide (0<s.1.getD x.toNat 0)then (s.1.set x.toNat (s.1.getD x.toNat 0-1),s.2.set a.toNat x)else s
def kE (os:LL)(cell a:Int):LI:=if decide (cell%4=3)then (aF os (a-1)).getD []else (aF os a).getD []
def cC (sm:LI)(cell:Int)(c:LI)(os:LL):Nat->LI×LI×LI
 |0=>(aJ os.length,c,os.map λ_=>(c.length:Int))
 |k+1=>((cC sm cell c os k).1.eraseIdx (sm.getD k 0%((cC sm cell c os k).1.length:Int)).toNat,
   (kE os cell ((cC sm cell c os k).1.getD (sm.getD k 0%((cC sm cell c os k).1.length:Int)).toNat 0)).foldl (gI c.length ((cC sm cell c os k).1.getD (sm.getD k 0%((cC sm cell c os k).1.length:Int)).toNat 0)) (cC sm cell c os k).2)
structure sJ (n A:Nat) (s:LI×LI):Prop where
 l:s.1.length=n
 d:s.2.length=A
 r:∀x∈s.2,0<=x/\x<=(n:Int)
theorem Yv {x:Int}(h:sJ n A s)(x0 : 0<=x)(x1:x<n):sJ n A (gI n a s x):=by
 unfold gI;split
 ·refine⟨by rw[PM];exact h.l,by rw[PM];exact h.d,λy hy=>?_⟩;obtain z|z:=US hy
  ·exact h.r y z
  ·omega
 ·exact h
theorem Cp:∀{l:LI} {s:LI×LI},sJ n A s->(∀x∈l,0<=x/\x<(n:Int))->sJ n A (l.foldl (gI n a) s)
 |[],_,h,_=>h
 |x::l,s,h,hl=>Cp (l:=l) (Yv h (hl x (.head _)).1 (hl x (.head _)).2) λy hy=>hl y (.tail _ hy)
theorem aae {l:List α}{x : α}(h:aF l k=some x):x∈l:=by
 unfold aF at h;cases q:dW l.length k with
 |none=>rw[q]at h;cases h
 |some j=>rw[q]at h;exact ba h
theorem Em {os:LL}{n:Nat}(h:∀o∈os,∀x∈o,0<=x/\x<(n:Int))(cell a:Int):∀x∈kE os cell a,0<=x/\x<(n:Int):=by
 unfold kE;have gen:∀k,∀x∈(aF os k).getD [],0<=x/\x<(n):=λk x hx=>by
  cases q:aF os k with
  |none=>rw[q]at hx;cases hx
  |some o=>rw[q]at hx;exact h o (aae q) x hx
 split
 ·exact gen _
 ·exact gen _
theorem yh (sm:LI)(cell:Int){os:LL}(h:∀o∈os,∀x∈o,0<=x/\x<(c.length:Int)):∀k,k<=os.length->(cC sm cell c os k).1.length=os.length-k/\(cC sm cell c os k).1.Sublist (aJ os.length)/\sJ c.length os.length (cC sm cell c os k).2
 |0=>λ_=>⟨lq _,.refl _,rfl,by show(os.map _).length=_;rw[aa],λx hx=>by
  obtain⟨_,_,rfl⟩:=i8.mp hx;lia⟩
 |k+1=>λhk=>by
  obtain⟨h1,h2,h3⟩:=yh sm cell h k 'O';have e:cC sm cell c os (k+1)=((cC sm cell c os k).1.eraseIdx (sm.getD k 0%((cC sm cell c os k).1.length)).toNat,
   (kE os cell ((cC sm cell c os k).1.getD (sm.getD k 0%((cC sm cell c os k).1.length:Int)).toNat 0)).foldl (gI c.length ((cC sm cell c os k).1.getD (sm.getD k 0%((cC sm cell c os k).1.length)).toNat 0)) (cC sm cell c os k).2):=rfl
  rw[e];generalize cC sm cell c os k=s at h1 h2 h3;obtain⟨l,s2⟩:=s;simp only at h1 h2 h3 ⊢;have b:=LS (sm.getD k 0) (show 0<(l.length:Int) by lia);refine⟨?_,(List.eraseIdx_sublist _ _).trans h2,Cp h3 (Em h _ _)⟩
  grind
def pT (cell:Int)(c:LI)(os:LL):LI:=(cC (cX (cell/4) (os.length+1)) cell c os os.length).2.2
abbrev AZ:age:=top 42
theorem lg:aY ["_law_cell", "_law_counts_here", "_law_orders_here", "_law_some", "_law_askers", "_law_left_here", "_law_deal", "_law_k", "_law_asker", "_law_own", "_law_thing"] ["_law_cell", "_law_counts_here", "_law_orders_here"] (az AZ):=sk
def NX:bG:=λdd t=>∃(cell:Int) (c:LI) (os:LL),eK c os/\dd=[di cell,dis c,.lst (os.map dis)]/\t=aA (pT cell c os)
theorem Ub (F:bN K "_law_turn_deal" AZ f fd)(T:Txt mg)(oV:a9 P w K mg base k "_law_stream" f1 cG ["_law_cell", "_law_many"] uI):bM P w K mg base (k+1) f fd ["_law_cell", "_law_counts_here", "_law_orders_here"] NX:=by
 refine bR F.d lg 'H' λdd t h=>?_
 obtain⟨cell,c,os,ok,rfl,rfl⟩:=h;have big:=cw;have c6:=ok.c6;have o6:=ok.o6;have o1:=ok.o1;unfold pT;have sl:(cX (cell/4) (os.length+1)).length=os.length+1:=(pE _ _).2.2;have gN:(((os.map dis).length:Nat):Int)=os.length:=by rw[aa]
 have lU:(((c.map di).length:Nat):Int)=c.length:=by rw[aa]
 refine aq (aT 3 (Ev.s (Ev.as (d:=dis (cX (cell/4) (os.length+1))) (aU oV (br _) (ag (iu (ae 0 rfl) ai ⟨'Q',lh 'Q' 'Q'⟩) (ag (fA (bY T.bU (ae 2 rfl) (.inl rfl)) ai) ak)) ⟨cell/4,os.length+1,'O',by rw[gN];rfl,rfl⟩) (bP _))) (λ_=>lg.nd)) ?_;generalize cX (cell/4) (os.length+1)=sm at sl;refine aq (aT 4 (bB.to (t':=aA (aJ os.length)) (Ev.s (xM T.gH T.eG (bY T.bU (ae 2 rfl) (.inl rfl)) (by rw[gN];lia) (by rw[gN];lia))) (by rw[gN,BY];rfl)) (λ_=>lg.nd)) ?_;refine aq (aT 5 (bB.to (t':=aA c) (Ev.s (mM T.gH (ae 1 rfl) (.inl rfl))) (by rw[mQ])) (λ_=>lg.nd)) ?_;refine aq (uV 6 (zR (ig.to (t':=aA (os.map λ_=>(c.length:Int))) (Qj (own:=["_law_order_here"]) (fr:=[1]) os dis (λ_=>ti c.length) (cy (ae 2 rfl) rfl) (bu 0 (λ_=>bT)) 'Q' 'O' (λx hx=>⟨_,rfl,by exact Ev.to (bY T.bU (ae 1 rfl) (.inl rfl)) (by rw[aa])⟩) (λdd=>by cases dd<;>rfl)) ?_)) (λi=>cv) (λ_=>lg.nd)) ?_
 ·show Tr.ow _=Tr.ow _;rw[i4];rfl
 refine aq (dY (its:=ju 0 os.length) (bb.s (bb.to (gj T.eG (bY T.bU (ae 2 rfl) (.inl rfl)) (by rw[gN];lia)) (by rw[gN,BY]))) (bu 7 (λ_=>lg.nd)) (λk=>[some (ti cell),some (.fz (dis c)),some (.fz (.lst (os.map dis))),some (.fz (dis sm)),some (aA (cC sm cell c os k).1),some (aA (cC sm cell c os k).2.1),some (aA (cC sm cell c os k).2.2),none,none,none,none]) rfl (λ_=>rfl) (λj d hd=>?_)) ?_
 ·obtain⟨hj,rfl⟩:=mP hd;obtain⟨h1,h2,h3⟩:=yh sm cell ok.bK j 'O';have e:cC sm cell c os (j+1)=((cC sm cell c os j).1.eraseIdx (sm.getD j 0%((cC sm cell c os j).1.length:Int)).toNat,
   (kE os cell ((cC sm cell c os j).1.getD (sm.getD j 0%((cC sm cell c os j).1.length:Int)).toNat 0)).foldl (gI c.length ((cC sm cell c os j).1.getD (sm.getD j 0%((cC sm cell c os j).1.length:Int)).toNat 0)) (cC sm cell c os j).2):=rfl
  rw[e];generalize cC sm cell c os j=s at h1 h2 h3;obtain⟨l,s2⟩:=s;simp only at h1 h2 h3 ⊢;have sj:aF (sm.map di) (0+(j:Int))=some (di (sm.getD j 0)):=by
   have:=qh (l:=sm) (x:=(j:Int)) 'O' 'O';rw[BY]at this;rwa [ad5]
  generalize sm.getD j 0=y at sj;have m0:=Sk y (show(l.length:Int)≠0 by lia);have m1:=LS y (show 0<(l.length:Int) by lia);have tR:(y%(l.length:Int)).toNat<l.length:='O'
  have Az : 0<=l.getD (y%(l.length:Int)).toNat 0/\l.getD (y%(l.length:Int)).toNat 0<os.length:=by
   rw[ir,ab tR];exact CL.mp (h2.subset (aeg tR))
  have Gm:(l.map λn=>Tr.fz (di n))[(y%(l.length:Int)).toNat]?=some (.fz (di (l.getD (y%(l.length:Int)).toNat 0))):=by
   rw[l8,ir,ab tR];rfl
  have el:(fh (l.map λn=>Tr.fz (di n))).length=l.length:=by rw[pC,aa,aa]
  generalize hm:(y%(l.length:Int)).toNat=m at Az Gm tR;generalize l.getD m 0=a at Az Gm;refine⟨_,[some (ti cell),some (.fz (dis c)),some (.fz (.lst (os.map dis))),some (.fz (dis sm)),some (aA (l.eraseIdx m)),some (aA ((kE os cell a).foldl (gI c.length a) s2).1),some (aA ((kE os cell a).foldl (gI c.length a) s2).2),some (ti (0+(j:Int))),some (ti a),some (.fz (dis (kE os cell a))),none],rfl,?_,[7,8,9],rfl⟩;refine aq (Wc 8 4 (n:=y%(l.length:Int)) (m:=m) (d:=di a) 'Q' rfl (bB.to (t':=ti (y%(l.length:Int))) (Ev.pk (dQ (bj (ae 3 rfl) (ae 7 rfl) rfl sj) (bY T.bU (ae 4 rfl) (.inl rfl)) (by rw[el];lia)) True.intro) (by rw[el])) (by rw[aa,<- hm];exact w8 m0 m1) ⟨'O','O'⟩ Gm (λ_=>lg.nd)) ?_;rw[B9];have RL:∀k:Int,-(os.length:Int)<=k->k<os.length->aF os k=some ((aF os k).getD []):=λk k0 k1=>by
   unfold aF dW;by_cases z : 0<=k
   ·rw[uu z,uu k1];show os[_]?=some ((os[_]?).getD []);rw[ab (show k.toNat<os.length by lia)];rfl
   ·rw[rf z,uu k0];show os[_]?=some ((os[_]?).getD []);rw[ab (show(k+os.length).toNat<os.length by lia)];rfl
  refine aq (aT 9 (Ev.s (bj (d:=dis ((aF os a).getD [])) (ae 2 rfl) (ae 8 rfl) rfl (Du dis (RL a 'O' 'O')))) (λ_=>lg.nd)) ?_;refine aq (ρ1:=[some (ti cell),some (.fz (dis c)),some (.fz (.lst (os.map dis))),some (.fz (dis sm)),some (aA (l.eraseIdx m)),some (aA s2.1),some (aA s2.2),some (ti (0+(j:Int))),some (ti a),some (.fz (dis (kE os cell a))),none]) ?_ ?_
  ·have eO:kE os cell a=if decide (cell%4=3)then (aF os (a-1)).getD []else (aF os a).getD []:=rfl
   cases hq:decide (cell%4=3)with
   |true=>
    rw[hq,uu rfl]at eO;rw[eO];exact jM (Et.s (gX (dQ (ae 0 rfl) ai 'Q') ai)) hq (ay (aT 9 (Ev.s (bj (d:=dis ((aF os (a-1)).getD [])) (ae 2 rfl) (DU (ae 8 rfl) ai) rfl (Du dis (RL (a-1) 'O' 'O')))) (λ_=>lg.nd)))
   |false=>
    rw[hq,rf 'Q']at eO;rw[eO];exact cQ (Et.s (gX (dQ (ae 0 rfl) ai 'Q') ai)) hq
  have ow:=Em ok.bK cell a;generalize kE os cell a=own at ow;refine ay (Rn.to (dY (bb.s (cy (ae 9 rfl) rfl)) (bu 10 (λ_=>lg.nd)) (λi=>[some (ti cell),some (.fz (dis c)),some (.fz (.lst (os.map dis))),some (.fz (dis sm)),some (aA (l.eraseIdx m)),some (aA ((own.take i).foldl (gI c.length a) s2).1),some (aA ((own.take i).foldl (gI c.length a) s2).2),some (ti (0+(j:Int))),some (ti a),some (.fz (dis own)),none]) rfl (λ_=>rfl) (λi d hd=>?_)) ?_)
  ·obtain⟨x,hx,rfl⟩:=gn hd;obtain⟨x0,x1⟩:=ow x (ba hx);have dk:sJ c.length os.length ((own.take i).foldl (gI c.length a) s2):=Cp h3 λz hz=>ow z (EN hz)
   rw[kc hx,List.foldl_append];generalize (own.take i).foldl (gI c.length a) s2=s at dk;obtain⟨left,eS⟩:=s;have d1:left.length=c.length:=dk.l;have d2:eS.length=os.length:=dk.d;show ∃dd gS,_/\bt _ _ _ _/\Fg _ [_,_,_,_,_,some (aA (gI c.length a (left,eS) x).1),some (aA (gI c.length a (left,eS) x).2),_,_,_,_];have eT:gI c.length a (left,eS) x=if decide (eS.getD a.toNat 0=(c.length:Int))&&decide (0<left.getD x.toNat 0)then (left.set x.toNat (left.getD x.toNat 0-1),eS.set a.toNat x)else (left,eS):=rfl
   have RM:aF (eS.map di) a=some (di (eS.getD a.toNat 0)):=qh Az.1 'O';have HN:aF (left.map di) x=some (di (left.getD x.toNat 0)):=qh x0 'O';have RN:decide (eS.getD a.toNat 0=(((c.map di).length:Nat):Int))=decide (eS.getD a.toNat 0=(c.length:Int)):=by rw[lU]
   cases hq:decide (eS.getD a.toNat 0=(c.length:Int))&&decide (0<left.getD x.toNat 0)with
   |true=>
    rw[hq,uu rfl]at eT;rw[eT];refine⟨_,[some (ti cell),some (.fz (dis c)),some (.fz (.lst (os.map dis))),some (.fz (dis sm)),some (aA (l.eraseIdx m)),some (aA (left.set x.toNat (left.getD x.toNat 0-1))),some (aA (eS.set a.toNat x)),some (ti (0+(j:Int))),some (ti a),some (.fz (dis own)),some (ti x)],rfl,?_,[10],rfl⟩;refine ay (jM (Et.pk (Ew.et (pH (gX (bj (ae 6 rfl) (ae 8 rfl) (bP eS) RM) (bY T.bU (ae 1 rfl) (.inl rfl))) λhp=>(pD (kx (bj (ae 5 rfl) (ae 10 rfl) (bP left) HN) ai))))) (by rw[RN];exact hq) (aq (ye 5 (n:=x) (m:=x.toNat) rfl (Ev.s (ae 10 rfl)) (w8 x0 (by rw[aa];show x<(left.length:Int);lia)) (Ev.pk (DU (bj (ae 5 rfl) (ae 10 rfl) (bP left) HN) ai) True.intro) (hps:=λi=>nZ (pv 5) (dR i) set_list)) ?_));rw[zU];refine aq (ye 6 (n:=a) (m:=a.toNat) rfl (Ev.s (ae 8 rfl)) (w8 Az.1 (by rw[aa];show a<(eS.length:Int);lia)) (Ev.s (ae 10 rfl)) (hps:=λi=>nZ (pv 6) (dR i) set_list)) ?_;rw[zU];exact mN
   |false=>
    rw[hq,rf 'Q']at eT;rw[eT];exact⟨_,_,rfl,ay (cQ (Et.pk (Ew.et (pH (gX (bj (ae 6 rfl) (ae 8 rfl) (bP eS) RM) (bY T.bU (ae 1 rfl) (.inl rfl))) λhp=>(pD (kx (bj (ae 5 rfl) (ae 10 rfl) (bP left) HN) ai))))) (by rw[RN];exact hq)),[10],rfl⟩
  ·rw[aa,List.take_of_length_le (br _)]
 ·have el:(ju 0 os.length).length=os.length:='Y'
  rw[el];exact ay (kh 6 rfl)
end
section
theorem aaf (y:Int)(c:LI)(A:Nat):(qj y c A).length=A/\∀x∈qj y c A,0<=x/\x<=(c.length:Int):=⟨(yA _ c A A).2.1,(yA _ c A A).2.2⟩
theorem Yw (y:Int){os:LL}(h:∀o∈os,∀x∈o,0<=x/\x<(c.length:Int)):(pT y c os).length=os.length/\∀x∈pT y c os,0<=x/\x<=(c.length:Int):=⟨(yh _ y h os.length (br _)).2.2.d,(yh _ y h os.length (br _)).2.2.r⟩
def cY (c:LI)(os:LL)(y:Int):LI:=if decide (y%4=0)then qj y c os.length else pT y c os
theorem Dz {os:LL}(h:∀o∈os,∀x∈o,0<=x/\x<(c.length:Int))(y:Int):(cY c os y).length=os.length/\∀x∈cY c os y,0<=x/\x<=(c.length:Int):=by
 unfold cY;split
 ·exact aaf y c os.length
 ·exact Yw y h
def wF (c:Int):Int:=1+if decide (c/7%4=1)then c/4%10^9 else c/4%3
theorem Fx (c:Int) : 1<=wF c/\wF c<=10^9:=by
 unfold wF;lia
def cA (cells:LI):Int:=(cells.map wF).sum
def hU (cells:LI)(c:LI)(os:LL)(a x:Int):Int:=((cells.filter λy=>decide ((cY c os y).getD a.toNat 0=x)).map wF).sum
def dJ (cells c:LI)(os:LL)(a:Int):LI:=(aJ (c.length+1)).map (hU cells c os a)
theorem uJ:∀cells,0<=cA cells/\cA cells<=cells.length*10^9
 |[] => by show(0)<=0/\(0)<=((0))*10^9;lia
 |c::cs=>by
  have ih:=uJ cs;have:=Fx c;have e:cA (c::cs)=wF c+cA cs:=by unfold cA;rw[JJ,Nd]
  rw[e,ID];lia
theorem CM (h : 1<=cells.length) : 0<cA cells:=by
 cases cells with
 |nil=>exact absurd h 'Q'
 |cons c cs=>
  have a:=uJ cs
  grind [cA,wF]
theorem LX (q:Int->Bool):∀cells,0<=((cells.filter q).map wF).sum/\((cells.filter q).map wF).sum<=cA cells
 |[] => by show(0)<=0/\(0)<=0;lia
 |c::cs=>by
  have ih:=LX q cs;have:=Fx c;have e:cA (c::cs)=wF c+cA cs:=by unfold cA;rw[JJ,Nd]
  rw[e,aba];split
  ·rw[JJ,Nd];lia
  ·lia
theorem abv {os:LL}(h1 : 1<=cells.length)(h2:cells.length<=100):fD (cA cells) c.length (dJ cells c os a):=by
 have s:=uJ cells;refine⟨CM h1,'O',by grind [dJ,lq],λt ht=>?_⟩;obtain⟨x,_,rfl⟩:=i8.mp ht;exact LX _ cells
theorem Yx {α:Type}(f g : α->Dv):∀l:List α,iV (l.map f) (l.map g)=l.map λa=>.tup [f a,g a]
 |[] => rfl
 |a::l=>by
  simp_all [iV]
abbrev ua:age:=top 44
theorem mn:aY ["_law_cells", "_law_counts_here", "_law_orders_here", "_law_weights", "_law_deals", "_law_cell", "_law_shares", "_law_asker", "_law_row", "_law_one", "_law_top"] ["_law_cells", "_law_counts_here", "_law_orders_here"] (az ua):=sk
def jo (W:Int)(aK:LI):Tr:=.ow (aK.map λt=>tF (fW W t))
def NY:bG:=λdd t=>∃(cells c:LI) (os:LL),1<=cells.length/\cells.length<=100/\eK c os/\dd=[dis cells,dis c,.lst (os.map dis)]/\t=.ow ((aJ os.length).map λa=>jo (cA cells) (dJ cells c os a))
theorem UZ (F:bN K "_law_drawn" ua f fd)(T:Txt mg)(Uq:a9 P w K mg base (k+1) "_law_any_deal" f1 cG ["_law_cell", "_law_counts_here", "_law_askers"] Pq)(Ue:a9 P w K mg base (k+1) "_law_turn_deal" f3 ra ["_law_cell", "_law_counts_here", "_law_orders_here"] NX)(t7:a9 P w K mg base (k+1) "_law_lowest" f2 fd2 ["_law_top", "_law_bottom"] lJ):bM P w K mg base (k+2) f fd ["_law_cells", "_law_counts_here", "_law_orders_here"] NY:=by
 refine bR F.d mn 'H' λdd t h=>?_
 obtain⟨cells,c,os,l1,l2,ok,rfl,rfl⟩:_:=h;have big:=cw;have W0:=CM l1;have W1:=uJ cells;have c6:=ok.c6;have o6:=ok.o6;have o1:=ok.o1;have gN:(((os.map dis).length:Nat):Int)=os.length:=by rw[aa]
 have lU:(((c.map di).length:Nat):Int)=c.length:=by rw[aa]
 have hAt:∀x:Int,aF [di (x/4%3),di (x/4%10^9)] (if decide (x/7%4=1)then 1 else 0)=some (di (if decide (x/7%4=1)then x/4%10^9 else x/4%3)):=λx=>by cases decide (x/7%4=1)<;>rfl
 refine aq (aT 3 (Ev.s (cf ak (AM _))) (λ_=>mn.nd)) ?_;refine aq (aT 4 (Ev.s (cf ak (AM _))) (λ_=>mn.nd)) ?_;refine aq (dY (bb.s (cy (ae 0 rfl) rfl)) (bu 5 (λ_=>mn.nd)) (λk=>[some (.fz (dis cells)),some (.fz (dis c)),some (.fz (.lst (os.map dis))),some (aA ((cells.take k).map wF)),some (jm ((cells.take k).map (cY c os))),none,none,none,none,none,none]) rfl (λ_=>rfl) (λj d hd=>?_)) ?_
 ·obtain⟨x,hx,rfl⟩:_:=gn hd;rw[kc hx,BN,BN];have tl:(cells.take j).length<=100:=by rw[Lm];lia
  have z1:(((cells.take j).map wF).map λn=>Tr.fz (di n)).length<sizeLine:=by rw[aa,aa];lia
  have z2:(((cells.take j).map (cY c os)).map aA).length<sizeLine:=by rw[aa,aa];lia
  generalize (cells.take j).map wF=L at z1;generalize (cells.take j).map (cY c os)=M at z2;have adh:some (aA (L++[x].map wF))=some (.ow ((L.map λn=>Tr.fz (di n))++[ti (wF x)])):=by
   show some (Tr.ow _)=_;rw[BN];rfl
  have fin2:some (jm (M++[x].map (cY c os)))=some (.ow (M.map aA++[aA (cY c os x)])):=by
   show some (Tr.ow _)=_;rw[BN];rfl
  rw[adh,fin2];have eD:cY c os x=if decide (x%4=0)then qj x c os.length else pT x c os:=rfl
  have sw:Rn (jv P w K mg base ["_law_cells", "_law_counts_here", "_law_orders_here", "_law_weights", "_law_deals", "_law_cell", "_law_shares", "_law_asker", "_law_row", "_law_one", "_law_top"] "_law_drawn" (az ua) f (k+2)) ((match(dB ua).getD 2 (.Pass ⟨0,0,0,0⟩)with | .For _ _ b _ _=>b|_=>[]).getD 0 (.Pass ⟨0,0,0,0⟩)) [some (.fz (dis cells)),some (.fz (dis c)),some (.fz (.lst (os.map dis))),some (aA L),some (jm M),some (ti x),none,none,none,none,none] (.nx [some (.fz (dis cells)),some (.fz (dis c)),some (.fz (.lst (os.map dis))),some (.ow ((L.map λn=>Tr.fz (di n))++[ti (wF x)])),some (jm M),some (ti x),none,none,none,none,none]):=
   iQ 3 rfl (bB.to (t':=ti (wF x)) (Ev.s (fA ai (bj (d:=di (if decide (x/7%4=1)then x/4%10^9 else x/4%3)) (cf (ag (dQ (iu (ae 5 rfl) ai ⟨'Q',lh 'Q' 'Q'⟩) ai 'Q') (ag (dQ (iu (ae 5 rfl) ai ⟨'Q',lh 'Q' 'Q'⟩) (aa4 ai ai ⟨'Q','Q','Q'⟩) 'Q') ak)) (by show 2<=sizeLine;decide)) (Ze T.Fo (ab6 (dQ (iu (ae 5 rfl) ai ⟨'Q',lh 'Q' 'Q'⟩) ai 'Q') ai)) rfl (hAt x)))) rfl) z1
  cases hq:decide (x%4=0)with
  |true=>
   rw[hq,uu rfl]at eD;rw[eD];exact⟨_,_,rfl,aq sw (ay (jM (Et.s (gX (dQ (ae 5 rfl) ai 'Q') ai)) hq (ay (iQ 4 rfl (Ev.s (aU Uq (br _) (ag (ae 5 rfl) (ag (ae 1 rfl) (ag (bY T.bU (ae 2 rfl) (.inl rfl)) ak))) ⟨x,c,os.length,c6,o1,o6,by rw[<- gN];rfl,rfl⟩)) z2)))),[5],rfl⟩
  |false=>
   rw[hq,rf 'Q']at eD;rw[eD];exact⟨_,_,rfl,aq sw (ay (DW (Et.s (gX (dQ (ae 5 rfl) ai 'Q') ai)) hq (ay (iQ 4 rfl (Ev.s (aU Ue (br _) (ag (ae 5 rfl) (ag (ae 1 rfl) (ag (ae 2 rfl) ak))) ⟨x,c,os,ok,rfl,rfl⟩)) z2)))),[5],rfl⟩
 rw[aa,List.take_of_length_le (br _)];refine oW (d:=dis (cells.map wF)) 3 rfl (bP _) ?_;have eDl:er (jm (cells.map (cY c os)))=.lst (cells.map λx=>dis (cY c os x)):=by
  rw[nV,i4];rfl
 refine oW (d:=.lst (cells.map λx=>dis (cY c os x))) 4 rfl eDl ?_;refine aq (aT 6 (Ev.s (cf ak (AM _))) (λ_=>mn.nd)) ?_;refine aq (dY (its:=ju 0 os.length) (bb.s (bb.to (gj T.eG (bY T.bU (ae 2 rfl) (.inl rfl)) (by rw[gN];lia)) (by rw[gN,BY]))) (bu 7 (λ_=>mn.nd)) (λk=>[some (.fz (dis cells)),some (.fz (dis c)),some (.fz (.lst (os.map dis))),some (.fz (dis (cells.map wF))),some (.fz (.lst (cells.map λx=>dis (cY c os x)))),none,some (.ow ((aJ k).map λa=>jo (cA cells) (dJ cells c os a))),none,none,none,none]) rfl (λ_=>rfl) (λj d hd=>?_)) ?_
 ·obtain⟨hj,rfl⟩:=mP hd;have eN:(aJ (j+1)).map (λa=>jo (cA cells) (dJ cells c os a))=(aJ j).map (λa=>jo (cA cells) (dJ cells c os a))++[jo (cA cells) (dJ cells c os (0+(j:Int)))]:=by
   unfold aJ;rw[List.range_succ,BN,BN];rfl
  rw[eN];have hL:((aJ j).map λa=>jo (cA cells) (dJ cells c os a)).length<sizeLine:=by rw[aa,lq];lia
  generalize ((aJ j).map λa=>jo (cA cells) (dJ cells c os a))=L at hL;refine⟨_,_,rfl,aq (aT 8 (Ev.s (cf ak (AM _))) (λ_=>mn.nd)) (aq (dY (its:=ju 0 (c.length+1)) (bb.s (bb.to (gj T.eG (fA (bY T.bU (ae 1 rfl) (.inl rfl)) ai) (by rw[lU];lia)) (by rw[lU];congr 1))) (bu 9 (λ_=>mn.nd)) (λi=>[some (.fz (dis cells)),some (.fz (dis c)),some (.fz (.lst (os.map dis))),some (.fz (dis (cells.map wF))),some (.fz (.lst (cells.map λx=>dis (cY c os x)))),none,some (.ow L),some (ti (0+(j:Int))),some (jo (cA cells) ((dJ cells c os (0+(j:Int))).take i)),none,none]) rfl (λ_=>rfl) (λi d hd=>?_)) (ay (Vo 6 8 'Q' rfl rfl hL))),[7],?_⟩
  ·obtain⟨hi,rfl⟩:=mP hd;have ht:(dJ cells c os (0+(j:Int)))[i]?=some (hU cells c os (0+(j:Int)) (0+(i:Int))):=by
    unfold dJ aJ;rw[l8,l8,IF hi];rfl
   have eR:jo (cA cells) ((dJ cells c os (0+(j:Int))).take (i+1))=.ow (((dJ cells c os (0+(j:Int))).take i).map (λt=>tF (fW (cA cells) t))++[tF (fW (cA cells) (hU cells c os (0+(j:Int)) (0+(i:Int))))]):=by
    rw[kc ht];show Tr.ow _=_;rw[BN];rfl
   rw[eR];have hz:(((dJ cells c os (0+(j:Int))).take i).map (λt=>tF (fW (cA cells) t))).length<sizeLine:=by rw[aa,Lm];lia
   rw[show jo (cA cells) ((dJ cells c os (0+(j:Int))).take i)=.ow (((dJ cells c os (0+(j:Int))).take i).map (λt=>tF (fW (cA cells) t)))from rfl];generalize ((dJ cells c os (0+(j:Int))).take i).map (λt=>tF (fW (cA cells) t))=M at hz;have adi:∀y:Int,aF ((cY c os y).map di) (0+(j:Int))=some (di ((cY c os y).getD (0+(j:Int)).toNat 0)):=λy=>qh 'O' (by
    have:=(Dz ok.bK y).1;lia)
   refine⟨_,[some (.fz (dis cells)),some (.fz (dis c)),some (.fz (.lst (os.map dis))),some (.fz (dis (cells.map wF))),some (.fz (.lst (cells.map λx=>dis (cY c os x)))),none,some (.ow L),some (ti (0+(j:Int))),some (.ow (M++[tF (fW (cA cells) (hU cells c os (0+(j:Int)) (0+(i:Int))))])),some (ti (0+(i:Int))),some (ti (hU cells c os (0+(j:Int)) (0+(i:Int))))],rfl,?_,[9,10],rfl⟩;refine aq (aT 10 (bB.to (t':=ti (hU cells c os (0+(j:Int)) (0+(i:Int)))) (Ev.s (MX T.Fs (sF (own:=["_law_weight", "_law_deal"]) (fr:=[9,7]) cells (λy=>.tup [di (wF y),dis (cY c os y)]) (λy=>decide ((cY c os y).getD (0+(j:Int)).toNat 0=0+(i:Int))) (λy=>ti (wF y)) (λi=>cv) (bb.to (Lh T.Fp (ae 3 rfl) (ae 4 rfl) rfl rfl) ?_) (iT 0 1 (λ_=>bT)) 'Q' 'O' (λy hy=>⟨_,rfl,by exact jj (gX (bj (ae 1 rfl) (ae 3 rfl) rfl (adi y)) (ae 2 rfl)),λ_=>by exact ae 0 rfl⟩) (λdd=>by obtain _|⟨_,_|⟨_,_⟩⟩:=dd<;>rfl)) (pJ _ _))) rfl) (λ_=>mn.nd)) ?_
   ·rw[i4];exact Yx _ _ cells
   exact ay (iQ 8 rfl (Ev.s (aU t7 (br _) (ag (ae 10 rfl) (ag (MX T.Fs (ae 3 rfl) rfl) ak)) ⟨_,cA cells,W0,lh 'O' 'O',rfl,rfl⟩)) hz)
  ·have el:(ju 0 (c.length+1)).length=c.length+1:='Y'
   rw[el,List.take_of_length_le (by unfold dJ;rw[aa,lq];exact br _)]
   rfl
 ·have el:(ju 0 os.length).length=os.length:='Y'
  rw[el];exact ay (kh 6 rfl)
end
section
def kF (ns:LI):Nat:=(fb ns 0%7).toNat
def iD (ns:LI):Nat:=(1+fb ns 0/7%6).toNat
def vO (ns:LI):LI:=Dy (fb ns 1) (kF ns)
def zV (ns:LI):LL:=gw ((aJ (iD ns)).map λx=>fb ns (2+x)) (kF ns) (iD ns)
theorem LY (ns:LI):fb ns 0%7=(kF ns:Int)/\kF ns<=6:=by
 unfold kF;lia
theorem LZ (ns:LI) : 1+fb ns 0/7%6=(iD ns:Int)/\1<=iD ns/\iD ns<=6:=by
 unfold iD;lia
theorem Yy (ns:LI):(vO ns).length=kF ns:=by unfold vO Dy;rw[aa];exact(pE _ _).2.2
theorem Xm (ns:LI):eK (vO ns) (zV ns):=by
 obtain⟨_,n6⟩:=LY ns;obtain⟨_,m1,m6⟩:=LZ ns;obtain⟨ol,oo⟩:=Dx ((aJ (iD ns)).map λx=>fb ns (2+x)) (kF ns) (iD ns);have cl:=Yy ns;exact⟨'O',λx hx=>by
  obtain⟨y,_,rfl⟩:=i8.mp hx;exact aad y,by show 1<=(gw _ _ _).length;lia,by show(gw _ _ _).length<=6;lia,λo ho=>(oo o ho).1,λo ho=>by rw[cl];exact(oo o ho).2⟩
abbrev Bl:age:=top 50
theorem xI:aY ["_law_script", "_law_many", "_law_askers", "_law_orders_here"] ["_law_script"] (az Bl):=sk
def L1:bG:=λdd t=>∃ns:LI,dd=[dis ns]/\t=.fz (fF (vO ns) (zV ns))
theorem UD (F:bN K "_law_tabled" Bl f fd)(T:Txt mg)(rC:a9 P w K mg base k "_law_cell_at" f1 cG ["_law_script", "_law_k"] Fw)(U0:a9 P w K mg base (k+1) "_law_counts" f2 fd2 ["_law_cell", "_law_many"] LW)(U1:a9 P w K mg base (k+2) "_law_orders" f3 ra ["_law_cells", "_law_many"] LV):bM P w K mg base (k+3) f fd ["_law_script"] L1:=by
 refine bR F.d xI 'H' λdd t h=>?_
 obtain⟨ns,rfl,rfl⟩:=h;have big:=cw;have r1:k+1<=k+3:='O'
 have r2:k+2<=k+3:='O'
 obtain⟨en,hn⟩:=LY ns;obtain⟨em,m1,m6⟩:_:=LZ ns;have cd7:vf (fb ns 0) 7:=⟨'Q',lh 'Q' 'Q'⟩
 refine aq (aT 1 (bB.to (t':=ti (kF ns)) (Ev.s (dQ (aU rC r1 (ag (ae 0 rfl) (ag ai ak)) ⟨ns,0,'Q',rfl,rfl⟩) ai 'Q')) (by rw[en])) (λ_=>xI.nd)) ?_;refine aq (aT 2 (bB.to (t':=ti (iD ns)) (Ev.s (fA ai (dQ (iu (aU rC r1 (ag (ae 0 rfl) (ag ai ak)) ⟨ns,0,'Q',rfl,rfl⟩) ai cd7) ai 'Q'))) (by rw[em])) (λ_=>xI.nd)) ?_;have ml:((aJ (iD ns)).map λx=>fb ns (2+x)).length=iD ns:=by grind [lq]
 have eO:er (jm (gw ((aJ (iD ns)).map λx=>fb ns (2+x)) (kF ns) ((aJ (iD ns)).map λx=>fb ns (2+x)).length))=.lst ((zV ns).map dis):=by
  rw[nV,ml];rfl
 refine aq (aT 3 (Ev.s (Ev.as (aU U1 (br _) (ag (fQ (own:=["_law_k"]) (fr:=[0]) (aJ (iD ns)) di (λx=>ti (fb ns (2+x))) (λi=>cv) (bb.to (gj T.eG (ae 2 rfl) ⟨'O','O'⟩) ?_) (bu 0 (λ_=>bT)) 'Q' (by grind) (λx hx=>⟨_,rfl,by
   have:=CL.mp hx;exact aU rC r1 (ag (ae 1 rfl) (ag (fA ai (ae 0 rfl)) ak)) ⟨ns,2+x,'O',rfl,rfl⟩⟩) (λdd=>by cases dd<;>rfl)) (ag (ae 1 rfl) ak)) ⟨(aJ (iD ns)).map λx=>fb ns (2+x),kF ns,hn,'O',?_,rfl⟩) eO)) (λ_=>xI.nd)) ?_
 ·unfold aJ
  simp_all
 rotate_left
 ·show[er (.ow _),_]=_;rw[pJ];rfl
 refine ay (cu (Ev.s (kg (ag (aU U0 r2 (ag (aU rC r1 (ag (ae 0 rfl) (ag ai ak)) ⟨ns,1,'Q',rfl,rfl⟩) (ag (ae 1 rfl) ak)) ⟨fb ns 1,kF ns,'O',rfl,rfl⟩) (ag (ae 3 rfl) ak)) ?_ (by grind))));show[er (aA _),_]=_;rw[bP];rfl
end
section
abbrev l3 (t:Int×Int×Int):LI:=[t.1,t.2.1,t.2.2]
def wJ (n:Nat)(o aK:LI)(a:Nat)(m:Nat):List (Int×Int×Int):=(List.range m).flatMap λj=>if cj aK ((aG n o).getD j 0)=0 then []else ((aG n o).take j).map λx=>((a:Int),x,(aG n o).getD j 0)
def cE (n:Nat)(os:LL)(S:Nat->LI)(m:Nat):List (Int×Int×Int):=(List.range m).flatMap λa=>wJ n (os.getD a []) (S a) a (aG n (os.getD a [])).length
theorem uK (n:Nat)(o aK:LI)(a m:Nat):wJ n o aK a (m+1)=wJ n o aK a m++(if cj aK ((aG n o).getD m 0)=0 then []else ((aG n o).take m).map λx=>((a:Int),x,(aG n o).getD m 0)):=by
 grind [wJ,List.range_succ]
theorem Cr (n:Nat)(os:LL)(S:Nat->LI)(m:Nat):cE n os S (m+1)=cE n os S m++wJ n (os.getD m []) (S m) m (aG n (os.getD m [])).length:=by
 grind [cE,List.range_succ]
def tri:Nat->Nat
 |0=>0
 |m+1=>tri m+m
theorem yX (n:Nat)(o aK:LI)(a:Nat):∀m,(wJ n o aK a m).length<=tri m
 |0=>AM _
 |m+1=>by
  rw[uK,xw];have:=yX n o aK a m;show _<=tri m+m;split
  ·show _+0<=_;lia
  ·rw[aa,Lm];lia
theorem Gp (h:m<=7):tri m<=21:=by
 have:∀m:Fin 8,tri m.val<=21:='Q'
 exact this ⟨m,'O'⟩
theorem jc {n:Nat}{o:LI}(hr:∀x∈o,0<=x/\x<n){x:Int}:x∈aG n o↔0<=x/\x<=n:=by
 unfold aG jn;simp only[qr,BB,i8,B0,l9]
 constructor
 ·rintro((h|h)|⟨k,⟨h1,_⟩,rfl⟩)
  ·have:=hr x h;lia
  ·lia
  ·lia
 ·intro h;by_cases hx:x∈o
  ·exact .inl (.inl hx)
  by_cases hn:x=n
  ·exact .inl (.inr hn)
  ·refine .inr ⟨x.toNat,⟨'O',?_⟩,'O'⟩;rw[show 0+((x.toNat:Nat):Int)=x by lia];simpa using hx
theorem nc {n:Nat}{o:LI}(hn:n<=6)(nd:o.Nodup)(hr:∀x∈o,0<=x/\x<n):(aG n o).length<=7/\(aG n o).Nodup:=by
 have nf:(aG n o).Nodup:=by
  unfold aG;rw[ze,ze];refine⟨⟨nd,AE.mpr ⟨(λz=>nomatch z),.nil⟩,λa ha b hb=>?_⟩,?_,λa ha b hb=>?_⟩
  ·grind
  ·refine List.Pairwise.map _ (λa b (h)=>?_) ((aeU).filter _);lia
  ·obtain⟨k,hk,rfl⟩:=i8.mp hb
   grind
 refine⟨?_,nf⟩;have:=Ts.oi (aG n o) (aJ (n+1)) nf λx hx=>by
  have:=(jc hr).mp hx;exact CL.mpr ⟨'O','O'⟩
 grind [aJ]
theorem pj {os:LL}(S:Nat->LI)(h:∀o∈os,(aG n o).length<=7):∀m,m<=os.length->(cE n os S m).length<=21*m
 |0=>λ_=>AM _
 |m+1=>λhm=>by
  rw[Cr,xw];have:=pj S h m 'O'
  grind [yX,Gp]
theorem CN {os:LL}:t∈cE n os S m↔∃a j,a<m/\j<(aG n (os.getD a [])).length/\cj (S a) ((aG n (os.getD a [])).getD j 0)≠0/\∃x∈(aG n (os.getD a [])).take j,t=((a:Int),x,(aG n (os.getD a [])).getD j 0):=by
 unfold cE wJ;simp only[aeB,l9]
 constructor
 ·intro z9;obtain⟨a,ha,j,hj,h⟩:_:=z9;split at h
  ·cases h
  ·rename_i hz
   obtain⟨x,hx,rfl⟩:=i8.mp h;exact⟨a,j,ha,hj,hz,x,hx,rfl⟩
 ·intro z9;obtain⟨a,j,ha,hj,hz,x,hx,rfl⟩:_:=z9;exact⟨a,ha,j,hj,by rw[rf hz];exact i8.mpr ⟨x,hx,rfl⟩⟩
def xf (n:Nat)(os:LL)(S:Nat->LI):List (Nat×Nat):=(cE n os S os.length).map λt=>(t.2.1.toNat,t.2.2.toNat)
theorem Wu (h:∀p,p∈ps↔p∈qs):kC ps=kC qs:=by
 unfold kC
 simp_all
theorem abw (ts:List (Int×Int×Int)):∃RO:List (Int×Int×Int),lR (ts.map l3)=RO.map l3/\RO.Perm ts:=by
 obtain⟨g,hg⟩:∃g:LI->Int×Int×Int,g=λd=>(d.getD 0 0,d.getD 1 0,d.getD 2 0):=⟨_,rfl⟩
 have gl:∀t,g (l3 t)=t:=λt=>by rw[hg];rfl
 refine⟨(lR (ts.map l3)).map g,?_,?_⟩
 ·rw[i4];refine((List.map_congr_left λd hd=>?_).trans (aeX _)).symm;obtain⟨t,_,rfl⟩:=i8.mp ((uh _).mem_iff.mp hd);show l3 (g (l3 t))=_;rw[gl];rfl
 ·have:=(uh (ts.map l3)).map g;rw[i4]at this;refine this.trans (aeQ ?_);exact(List.map_congr_left λt _=>gl t).trans (aeX _)
theorem yi (h:j<(aG n o).length):(aG n o)[j]?=some ((aG n o).getD j 0):=by
 simp_all
theorem Yz (l:List α)(m:Nat):cutD l none (some (m:Int))=l.take m:=by
 show(l.drop 0).take (min m l.length-0)=_
 simp_all
abbrev nWI:List Str:=["table", "shares", "told", "asker", "row", "order", "place", "b"]
abbrev CO:age:=top 25
theorem ui:aY nWI ["table", "shares"] (az CO):=sk
abbrev tW (ts:List (Int×Int×Int)):Tr:=.ow (ts.map λt=>.fz (dT (l3 t)))
theorem acs (ts:List (Int×Int×Int)):er (tW ts)=.lst ((ts.map l3).map dT):=by rw[fu,i4];rfl
abbrev bA (W:Int)(A:Nat)(S:Nat->LI):Dv:=.lst ((List.range A).map λa=>dD W (S a))
theorem Ep (p q:Int×Int):bX (dF p) (dF q)=decide (p=q):=by
 show(p.1==q.1&&(p.2==q.2&&true))=_
 grind
theorem YB (h : 0<W):bX (dF (fW W s)) (dF (lT 0 1,lB 0 1))=decide (s=0):=by
 rw[Ep,Fv,<- rT h,af3]
 grind [yR]
def Fy:bG:=λdd t=>∃(c:LI) (os:LL) (W:Int) (S:Nat->LI),eK c os/\(∀a,a<os.length->fD W c.length (S a))/\dd=[fF c os,bA W os.length S]/\t=.ow ((lR ((cE c.length os S os.length).map l3)).map λd=>.fz (dT d))
theorem Xn (F:bN K "wishes" CO f fd)(T:Txt mg)(Bv:a9 P w K mg base (k+1) "full_order" f1 cG ["table", "asker"] Fu)(mC:a9 P w K mg base (k+1) "fraction" f2 fd2 ["top", "bottom"] lJ)(B1:Binds K fd2 ["top", "bottom"] [.int 1 tk]):bM P w K mg base (k+2) f fd ["table", "shares"] Fy:=by
 refine bR F.d ui 'H' λdd t h=>?_
 obtain⟨c,os,W,S,ok,bO,rfl,rfl⟩:_:=h;have big:=cw;have o6:=ok.o6;have c6:=ok.c6;have fl:=λo ho=>(nc c6 (ok.nd o ho) (ok.bK o ho)).1
 have wl:=pj S fl os.length (br _);refine aq (aT 2 (Ev.s (cf ak (AM _))) (λ_=>ui.nd)) ?_;refine aq (dY (bb.s (rL T.mB (ae 1 rfl) rfl)) (iT 3 4 (λ_=>ui.nd)) (λk=>[some (.fz (fF c os)),some (.fz (bA W os.length S)),some (tW (cE c.length os S k)),none,none,none,none,none]) rfl (λ_=>rfl) (λj d hd=>?_)) ?_
 ·obtain⟨x,hx,rfl⟩:=lz hd;obtain⟨a,ha,rfl⟩:=gn hx;have ja:a=j:=by
   obtain⟨q1,q2⟩:=gz.mp ha;rw[List.getElem_range]at q2;exact q2.symm
  subst ja;have hj:a<os.length:=by have:=(gz.mp ha).1;rw[vc]at this;exact this
  obtain⟨o,xg⟩:∃o,os[a]?=some o:=⟨_,ab hj⟩
  have og:os.getD a []=o:=by rw[ir,xg];rfl
  have om:=ba xg;have f7:=fl o om;have R:=bO a hj;have tP:=ok.gN om;have wa:=pj S fl a 'O';refine⟨_,_,rfl,aq (aT 5 (Ev.s (Ev.as (d:=dis (aG c.length o)) (aU Bv (br _) (ag (ae 0 rfl) (ag (ae 3 rfl) ak)) ⟨c,os,a,o,'O','O',dh xg,rfl,rfl⟩) (bP _))) (λ_=>ui.nd)) (ay (dY (bb.s (rL T.mB (ae 5 rfl) rfl)) (iT 6 7 (λ_=>ui.nd)) (λi=>[some (.fz (fF c os)),some (.fz (bA W os.length S)),some (tW (cE c.length os S a++wJ c.length o (S a) a i)),some (ti a),some (.fz (dD W (S a))),some (.fz (dis (aG c.length o))),none,none]) ?_ (λ_=>rfl) (λi d hd=>?_))),[3,4,5],?_⟩
  ·show[_,_,some (tW (cE c.length os S a++[])),_,_,_,_,_]=_;rw[AS];rfl
  ·obtain⟨y,hy,rfl⟩:=lz hd;obtain⟨b,hb,rfl⟩:=gn hy;have il:=(gz.mp hb).1;have bg:(aG c.length o).getD i 0=b:=by rw[ir,hb];rfl
   have bm:=(jc (ok.bK o om)).mp (ba hb);have adj:er (.ow ((cutD ((aG c.length o).map di) none (some ((i:Nat):Int))).map .fz))=.lst (((aG c.length o).take i).map di):=by
    rw[fP,yd,Yz]
   have wj:=yX c.length o (S a) a i;have ti7:=Gp (m:=i) 'O';have tw:∀l r:List (Int×Int×Int),tW (l++r)=.ow ((l.map λt=>.fz (dT (l3 t)))++r.map λt=>.fz (dT (l3 t))):=λl r=>by show Tr.ow _=Tr.ow _;rw[BN]
   refine⟨_,_,rfl,ay (vh (o:=.nx [some (.fz (fF c os)),some (.fz (bA W os.length S)),some (tW (cE c.length os S a++wJ c.length o (S a) a (i+1))),some (ti a),some (.fz (dD W (S a))),some (.fz (dis (aG c.length o))),some (ti i),some (ti b)]) (p:=!decide (cj (S a) b=0)) (fI.to (Et.s (kn (bj (ae 4 rfl) (ae 7 rfl) rfl (rowAt R bm.1 bm.2)) (CF mC B1 (br _) (ag ai ak) ⟨0,1,'Q','Q',rfl,rfl⟩) (.inr ⟨_,_,rfl,rfl⟩) (Cs (vb _) 'Q'))) ?_) (λh=>bt.to (ay (W4 2 rfl (Ev.s (fQ (own:=["a"]) (fr:=[3,7]) ((aG c.length o).take i) di (λx=>.fz (dT [(a:Int),x,b])) (λi=>cv) (cy (x9 (ae 5 rfl) rfl C8 (uD (ae 6 rfl))) adj) (bu 0 (λ_=>bT)) 'Q' (by rw[Lm];lia) (λx hx=>⟨_,rfl,by exact kg (dd:=[di a,di x,di b]) (ag (ae 1 rfl) (ag (ae 0 rfl) (ag (ae 2 rfl) ak))) rfl (by show 3<=sizeLine;decide)⟩) (λdd=>by cases dd<;>rfl))) ?_)) ?_) (λh=>bt.to mN ?_)),[6,7],rfl⟩
   ·show(!bX (dF _) (dF _))=_;rw[YB R.w0]
   ·rw[aa,aa,xw,Lm];lia
   ·have hb:¬cj (S a) b=0:=λz=>by rw[EO z]at h;cases h
    show Out.nx [_,_,some (.ow _),_,_,_,_,_]=_;rw[uK,bg,rf hb,<- CS,tw,i4]
    rfl
   ·have hb:cj (S a) b=0:=ES λz=>by rw[LF z]at h;cases h
    rw[uK,bg,uu hb,AS]
    rfl
  ·show[_,_,some (tW _),_,_,_,_,_]=_;rw[Cr,og,lA,aa]
 ·rw[lA,aa,vc];refine oW 2 rfl (acs _) ?_;exact ay (cu (Ev.s (Wm T.CK (ae 2 rfl) rfl (λd hd=>by obtain⟨t,_,rfl⟩:=i8.mp hd;exact List.cons_ne_nil _ _) (by rw[aa];lia))))
abbrev Bw:age:=top 26
theorem U2:aY ["table", "shares"] ["table", "shares"] (az Bw):=sk
abbrev RP (ps:List (Nat×Nat)):Tr:=.ow ((ps.map lP).map λd=>.fz (dT d))
def Pr:bG:=λdd t=>∃(c:LI) (os:LL) (W:Int) (S:Nat->LI),eK c os/\(∀a,a<os.length->fD W c.length (S a))/\dd=[fF c os,bA W os.length S]/\t=RP (kC (xf c.length os S))
theorem U3 (F:bN K "over_pairs" Bw f fd)(T:Txt mg)(CP:a9 P w K mg base (k+2) "wishes" f1 cG ["table", "shares"] Fy):bM P w K mg base (k+3) f fd ["table", "shares"] Pr:=by
 refine bR F.d U2 'H' λdd t h=>?_
 obtain⟨c,os,W,S,ok,bO,rfl,rfl⟩:_:=h;have big:=cw;have o6:=ok.o6;have c6:=ok.c6;have fl:=λo ho=>(nc c6 (ok.nd o ho) (ok.bK o ho)).1
 have wl:=pj S fl os.length (br _);obtain⟨ts,ets,RQ⟩:_:=abw (cE c.length os S os.length);have tin:∀t∈ts,0<=t.2.1/\t.2.1<=6/\0<=t.2.2/\t.2.2<=6:=λt ht=>by
  obtain⟨a,j,ha,hj,_,x,hx,rfl⟩:_:=CN.mp (RQ.mem_iff.mp ht);have om:os.getD a []∈os:=by
   simp_all
  have h1:=(jc (ok.bK _ om)).mp (EN hx);have h2:=(jc (ok.bK _ om)).mp (ba (yi hj))
  grind
 have ew:er (.ow ((lR ((cE c.length os S os.length).map l3)).map λd=>.fz (dT d)))=.lst (ts.map λt=>dT (l3 t)):=by
  rw[fu,ets,i4];rfl
 have ec:er (.ow (ts.map λt=>Tr.fz (dT (lP (t.2.1.toNat,t.2.2.toNat)))))=.lst (((ts.map λt=>(t.2.1.toNat,t.2.2.toNat)).map lP).map dT):=by
  rw[fu,i4,i4];rfl
 refine ay (cu (bB.to (Ev.s (VN T.CK T.Pm (fQ (own:=["asker", "a", "b"]) (fr:=[]) ts (λt=>dT (l3 t)) (λt=>Tr.fz (dT (lP (t.2.1.toNat,t.2.2.toNat)))) (λi=>cv) (cy (aU CP (br _) (ag (ae 0 rfl) (ag (ae 1 rfl) ak)) ⟨c,os,W,S,ok,bO,rfl,rfl⟩) ew) (uU 0 1 2 (λ_=>bT)) 'Q' (by rw[RQ.length_eq];lia) (λt ht=>⟨_,rfl,?_⟩) (λdd=>by match dd with | [] => rfl | [_] => rfl | [_,_] => rfl|_::_::_::_=>rfl)) ec ?_)) ?_))
 ·exact Ev.to (kg (dd:=[di t.2.1,di t.2.2]) (ag (ae 1 rfl) (ag (ae 2 rfl) ak)) rfl (by grind)) (by
   grind)
 ·grind
 ·grind [Wu,xf]
def rd (l:LI)(x b:Int):Prop:=∃(j:Nat),l[j]?=some b/\x∈l.take j
theorem aag:rd (l++r) x b↔rd l x b\/(x∈l/\b∈r)\/rd r x b:=by
 constructor
 ·rintro⟨j,h1,h2⟩;obtain h|h:=EM j l.length
  ·rw[Cf h]at h1;rw[afd (aeF h)]at h2;exact .inl ⟨j,h1,h2⟩
  ·rw[wb h]at h1;rw[aeC,List.take_of_length_le h]at h2;obtain h2|h2:=qr.mp h2
   ·exact .inr (.inl ⟨h2,ba h1⟩)
   ·exact .inr (.inr ⟨j-l.length,h1,h2⟩)
 ·rintro(⟨j,h1,h2⟩|⟨h1,h2⟩|⟨j,h1,h2⟩)
  ·have h:=(gz.mp h1).1;exact⟨j,by rw[Cf h];exact h1,by rw[afd (aeF h)];exact h2⟩
  ·obtain⟨j,hj,ej⟩:=DO h2;refine⟨l.length+j,?_,?_⟩
   ·rw[wb 'O',show l.length+j-l.length=j by lia,ab hj,ej]
   ·rw[aeC,List.take_of_length_le 'O'];exact xy _ h1
  ·refine⟨l.length+j,?_,?_⟩
   ·rw[wb 'O',show l.length+j-l.length=j by lia];exact h1
   ·rw[aeC,show l.length+j-l.length=j by lia];exact l7 _ h2
theorem aah (nd:l.Nodup):rd l x b↔x∈l/\b∈l/\l.idxOf x<l.idxOf b:=by
 constructor
 ·rintro⟨j,h1,h2⟩;obtain⟨hj,rfl⟩:=gz.mp h1;obtain⟨i,hi,rfl⟩:=aey.mp h2
  grind
 ·rintro⟨h1,h2,h3⟩;have k1:=Nl.mpr h1;have k2:=Nl.mpr h2;refine⟨l.idxOf b,'J',aey.mpr ⟨l.idxOf x,'O',List.getElem_idxOf k1⟩⟩
end
section
theorem pU (h : 0<W)(w1:W<2^70)(s0 : 0<=s)(s1:s<=200*W):lC (fW W s):=by
 have a:=gq (s:=s) h;have b:=Fe (s:=s) h;have c:=Eb (s:=s) h;refine⟨a,?_,?_⟩
 ·lia
 ·lia
abbrev HP (W:Int)(ss:LI):Dv:=.lst (ss.map λs=>dF (fW W s))
abbrev CQ:age:=top 12
theorem xX:aY ["some", "total", "one"] ["some"] (az CQ):=sk
def NZ:bG:=λdd t=>∃(W:Int) (ss:LI),0<W/\W<2^70/\(∀s∈ss,0<=s/\s<=W)/\ss.length<=120/\dd=[HP W ss]/\t=tF (fW W ss.sum)
theorem yj {ss:LI}(h:∀s∈ss,0<=s/\s<=W)(w0 : 0<W):∀j,0<=(ss.take j).sum/\(ss.take j).sum<=j*W
 |0=>'J'
 |j+1=>by
  have ih:=yj h w0 j;have e:(((j+1:Nat)))*W=j*W+W:=by grind
  cases q:ss[j]? with
  |none=>
   grind [List.take_of_length_le]
  |some x=>
   have hx:=h x (ba q);rw[kc q,aeo,afG];lia
theorem Xo (F:bN K "sum_of" CQ f fd)(T:Txt mg)(mC:a9 P w K mg base (k+1) "fraction" f1 cG ["top", "bottom"] lJ)(B1:Binds K cG ["top", "bottom"] [.int 1 tk])(abx:a9 P w K mg base (k+2) "plus" f2 fd2 ["one", "other"] vp):bM P w K mg base (k+3) f fd ["some"] NZ:=by
 refine bR F.d xX 'H' λdd t h=>?_
 obtain⟨W,ss,w0,w1,sb,sl,rfl,rfl⟩:_:=h;refine aq (aT 1 (bB.to (t':=tF (fW W (ss.take 0).sum)) (Ev.s (CF mC B1 (by show k+2<=k+3;lia) (ag ai ak) ⟨0,1,'Q','Q',rfl,rfl⟩)) (by show tF (0,1)=tF (fW W 0);rw[rT w0])) (λ_=>xX.nd)) ?_;refine aq (dY (bb.s (cy (ae 0 rfl) rfl)) (bu 2 (λ_=>xX.nd)) (λj=>[some (.fz (HP W ss)),some (tF (fW W (ss.take j).sum)),none]) rfl (λ_=>rfl) (λj d hd=>?_)) ?_
 ·obtain⟨x,hx,rfl⟩:=gn hd;have hb:=sb x (ba hx);have ht:=yj sb w0 j;have hj:j<ss.length:=by
   grind
  have adk:(j)*W<=200*W:=Me 'O' 'O';refine⟨_,[some (.fz (HP W ss)),some (tF (fW W (ss.take (j+1)).sum)),some (tF (fW W x))],rfl,?_,[2],rfl⟩;rw[kc hx,aeo,afG];generalize (ss.take j).sum=S at ht;exact ay (aT 1 (bB.to (t':=tF (fW W (S+x))) (Ev.s (aU abx (br _) (ag (ae 1 rfl) (ag (ae 2 rfl) ak)) ⟨fW W S,fW W x,pU w0 w1 ht.1 'O',pU w0 w1 hb.1 'O',rfl,rfl⟩)) (by rw[Dh w0])) (λ_=>xX.nd))
 ·rw[aa,aef];exact ay (cu (Ev.s (ae 1 rfl)))
def nk (ps:List (Nat×Nat))(r:LI):LI:=(ps.filter λp=>r.contains (p.1:Int)).map λp=>(p.2:Int)
def iE (ps:List (Nat×Nat))(r:LI):LI:=r.filter λx=>!(nk ps r).contains x
def qk (ps:List (Nat×Nat))(r:LI):LI:=r.filter λx=>(nk ps r).contains x
def tT (ps:List (Nat×Nat)):Nat->LI->LI->LI
 |0,o,_=>o
 |n+1,o,r=>if iE ps r=[]then o else tT ps n (o++iE ps r) (qk ps r)
def i9 (ps:List (Nat×Nat))(n:Nat):LI:=tT ps (n+1) [] (aJ n)
theorem L4 (ps:List (Nat×Nat))(r:LI):(iE ps r++qk ps r).Perm r:=by
 have:=List.filter_append_perm (λx=>!(nk ps r).contains x) r;refine(NH _ (aeQ ?_)).trans this;exact afU λx _=>by rw[Bool.not_not]
theorem L5 (ps:List (Nat×Nat))(r:LI):(iE ps r).length+(qk ps r).length=r.length:=by
 rw[<- xw];exact(L4 ps r).length_eq
theorem L6:x∈nk ps r↔∃p∈ps,(p.1:Int)∈r/\x=(p.2:Int):=by
 unfold nk;simp[i8]
 grind
structure Lu (ps:List (Nat×Nat)) (N:Nat) (o r:LI):Prop where
 perm:(o++r).Perm (aJ N)
 RR:∀p∈ps,(p.1:Int)∈aJ N->(p.2:Int)∈o->rd o p.1 p.2
theorem aai (L:Lu ps N o r):Lu ps N (o++iE ps r) (qk ps r):=by
 refine⟨?_,λp hp hn hb=>?_⟩
 ·rw[CS];exact(NH o (L4 ps r)).trans L.perm
 ·rw[aag];obtain hb|hb:=qr.mp hb
  ·exact .inl (L.RR p hp hn hb)
  ·right;left
   refine⟨?_,hb⟩;have h1:=L.perm.mem_iff.mpr hn;obtain h1|h1:=qr.mp h1
   ·omega
   ·exfalso;have:=(B0.mp hb).2;rw[MW.mpr (L6.mpr ⟨p,hp,h1,rfl⟩)]at this;cases this
theorem N9:∀n o r,r.length<n->Lu ps N o r->∃r',Lu ps N (tT ps n o r) r'/\iE ps r'=[]
 |0=>λo r h _=>'O'
 |n+1=>λo r h L=>by
  unfold tT;by_cases hf:iE ps r=[]
  ·grind
  ·rw[rf hf];have:=L5 ps r;have:=afv.mpr hf;exact N9 n _ _ 'O' (aai L)
theorem Oa (ps:List (Nat×Nat))(N:Nat):∃r',Lu ps N (i9 ps N) r'/\iE ps r'=[]:=by
 have hl:(aJ N).length=N:=by grind [aJ]
 exact N9 (N+1) [] (aJ N) 'O' ⟨List.Perm.refl _,λp _ _ h=>nomatch h⟩
def dX (ps:List (Nat×Nat))(N:Nat):LI:=(aJ N).filter λx=>!(i9 ps N).contains x
theorem L7 (h:x∈dX ps N):∃p∈ps,(p.1:Int)∈dX ps N/\x=(p.2:Int):=by
 obtain⟨r',L,hf⟩:_:=Oa ps N;have nd:=L.perm.nodup_iff.mpr (xQ N);have mem:∀y,y∈dX ps N↔y∈r':=λy=>by
  unfold dX;rw[B0]
  constructor
  ·rintro⟨h1,h2⟩;obtain z|z:=qr.mp (L.perm.mem_iff.mpr h1)
   ·simp_all
   ·exact z
  ·intro z;refine⟨L.perm.mem_iff.mp (l7 _ z),?_⟩
   grind
 have hx:=(mem x).mp h;have:x∈nk ps r':=by
  simp_all [iE]
 obtain⟨p,h1,h2,h3⟩:_:=L6.mp this
 grind
theorem aby (h:dX ps N=[]):(i9 ps N).Perm (aJ N)/\∀p∈ps,(p.1:Int)∈aJ N->(p.2:Int)∈aJ N->rd (i9 ps N) p.1 p.2:=by
 obtain⟨r',L,hf⟩:_:=Oa ps N;have nd:=L.perm.nodup_iff.mpr (xQ N);have rn:r'=[]:=by
  cases hr:r' with
  |nil=>rfl
  |cons y l=>
   exfalso;have hy:y∈r':='J'
   have:y∈dX ps N:=B0.mpr ⟨L.perm.mem_iff.mp (l7 _ hy),by
    grind⟩
   simp_all
 have P:=L.perm;rw[rn,AS]at P;exact⟨P,λp hp h1 h2=>L.RR p hp h1 (P.mem_iff.mpr h2)⟩
def ip (rest:LI)(ts:List (Int×Int×Int))(x:Int):Int×Int×Int:=(ts.filter λt=>rest.contains t.2.1&&decide (t.2.2=x)).headD (0,0,0)
def xh (rest:LI)(ts:List (Int×Int×Int)):Nat->LI->Int->List (Int×Int×Int)
 |0,_,_=>[]
 |n+1,p,x=>if p.contains x=true then ((p.drop (p.idxOf x)).map (ip rest ts)).reverse else xh rest ts n (p++[x]) (ip rest ts x).2.1
def AA (rest:LI)(ts:List (Int×Int×Int)):List (Int×Int×Int):=xh rest ts (rest.length+1) [] (rest.headD 0)
def AB (rest:LI)(ts:List (Int×Int×Int)):Prop:=∀x∈rest,∃t∈ts,t.2.1∈rest/\t.2.2=x
theorem Pu {rest:LI}(h:AB rest ts)(hx:x∈rest):ip rest ts x∈ts/\(ip rest ts x).2.1∈rest/\(ip rest ts x).2.2=x/\∃r,(ts.filter λt=>rest.contains t.2.1&&decide (t.2.2=x))=ip rest ts x::r:=by
 obtain⟨t,h1,h2,h3⟩:_:=h x hx;have ht:t∈ts.filter λt=>rest.contains t.2.1&&decide (t.2.2=x):=B0.mpr ⟨h1,'J'⟩
 cases e:ts.filter λt=>rest.contains t.2.1&&decide (t.2.2=x)with
 |nil=>rw[e]at ht;cases ht
 |cons a l=>
  grind [ip]
structure tU (rest:LI) (ts:List (Int×Int×Int)) (p:LI) (x:Int):Prop where
 nd:p.Nodup
 sub:∀y∈p,y∈rest
 HQ:x∈rest
 wZ:∀(i:Nat) (y z:Int),p[i]?=some y->(p++[x])[i+1]?=some z->(ip rest ts y).2.1=z
theorem tU.more {rest:LI}(h:AB rest ts)(P:tU rest ts p x)(hx:p.contains x=false):tU rest ts (p++[x]) (ip rest ts x).2.1:=by
 have xp:x∉p:=λz=>by rw[MW.mpr z]at hx;cases hx
 refine⟨?_,λy hy=>?_,(Pu h P.HQ).2.1,λi y z h1 h2=>?_⟩
 ·rw[ze];exact⟨P.nd,AE.mpr ⟨(λz=>nomatch z),.nil⟩,λa ha b hb z=>by rw[BB.mp hb]at z;exact xp (z▸ha)⟩
 ·obtain hy|hy:=qr.mp hy
  ·exact P.sub y hy
  ·rw[BB.mp hy];exact P.HQ
 ·obtain hi|hi:=EM i p.length
  ·rw[Cf hi]at h1;refine P.wZ i y z h1 ?_;rw[Cf (by rw[xw,WJ];lia)]at h2;exact h2
  ·rw[wb hi]at h1;have iL:i=p.length:=by
    have:=(gz.mp h1).1;rw[WJ]at this;lia
   subst iL;rw[aeH]at h1;cases h1;rw[wb (by rw[xw,WJ];lia),xw,WJ,aeH]at h2;cases h2
   rfl
theorem tU.len {rest:LI}(P:tU rest ts p x):p.length<=rest.length:=Ts.oi p rest P.nd P.sub
end
section
theorem aaj {F:aS ι}(j:Nat)(h : ρ[j]?=some (some t))(hps:∀i,PS (F.cx i) (.Return (some (.Tuple [.Constant (.str n) c0 p0,.Name x px] kt pt)) pos) (vE (FT (dH (tC (.str n)) (dH (dC j) d8))))):
  Rn F (.Return (some (.Tuple [.Constant (.str n) c0 p0,.Name x px] kt pt)) pos) ρ (.rt (.tp [tx n,t])):=by
 refine⟨_,hps,λD σ G0 H0 G H r k=>?_⟩;obtain⟨fp,r⟩:=r;obtain⟨v,f,fr,q1,q2,q3,q4⟩:_:=r.own.split h;have sub:∀a∈f,a∈fp:=λa ha=>q4.mem_iff.mpr (xy _ ha)
 refine⟨v,q1,by show 2<=sizeLine;decide,λp hp=>?_⟩;have pf:p∉f:=λz=>by
  obtain⟨u,hu⟩:=r.own.there p (sub p z);rw[hp]at hu;cases hu
 refine k (.ref p) G _ (p::f) (r.st.trans (.jR r.st.s hp)) ⟨p,_,f,rfl,bQ,⟨.str n,[v],[],f,rfl,rfl,⟨rfl,rfl,rfl⟩,⟨v,[],f,[],rfl,(AS f).symm,q2.frame pf,rfl,rfl⟩⟩,rfl⟩ ⟨λa ha=>?_,λa ha=>?_,AE.mpr ⟨pf,(ze.mp (q4.nodup_iff.mp r.d)).1⟩⟩
 ·obtain rfl|z:=ff.mp ha
  ·exact r.st.h.free hp
  ·exact r.n a (sub a z)
 ·obtain rfl|z:=ff.mp ha
  ·exact r.st.s.free hp
  ·exact r.g a (sub a z)
theorem Wv {F:aS ι}(j j2:Nat)(qR:j≠j2)(h : ρ[j]?=some (some (.ow us)))(h2 : ρ[j2]?=some (some (aA ns)))(hz:us.length+ns.length<=sizeLine)(hps:∀i,PS (F.cx i) st (pO (nD F.K "list" C5 (dC j) (dH (dC j2) d8)))):Rn F st ρ (.nx (ρ.set j (some (.ow (us++ns.map λn=>.fz (di n)))))):=by
 refine⟨_,hps,λD σ G0 H0 G H r k=>?_⟩;obtain⟨fp,r⟩:=r;obtain⟨l0,Ao,Ap,c1,c2,_⟩:_:=r.mut h (.refl r.st.s);obtain⟨l,vs,fq,d1,d2,d3,d4,d5,d6,d7⟩:_:=r.mut h (.refl r.st.s);rw[c1]at d1;cases d1;obtain⟨v2,f2,fr,a1,a2,a3,a4⟩:_:=r.own.split h2;obtain⟨b,zs,f',rfl,hb,ob,_⟩:_:=a2;obtain⟨rfl,rfl⟩:=Kf ob;refine⟨_,c1,.inl ⟨rfl,_,aM.of c2⟩,_,a1,l0,b,vs,_,rfl,rfl,d3,hb,by rw[<- d4.length,aa];exact hz,k σ G _ (d7 (us++ns.map λn=>.fz (di n)) (vs++ns.map V.int) (fq++[]) (d4.append (Xd ns)) (by rw[AS];exact d5) λa ha=>?_)⟩;rw[AS]at ha;exact .inl ha
def gO (A:Nat)(S:Nat->LI)(x:Int):Int:=((List.range A).map λa=>cj (S a) x).sum
abbrev BU:age:=top 23
theorem VU:aY ["shares", "one"] ["shares", "one"] (az BU):=sk
def vd:bG:=λdd t=>∃(W:Int) (n A:Nat) (S:Nat->LI) (x:Int),0<W/\W<2^70/\(∀a,a<A->fD W n (S a))/\A<=6/\0<=x/\x<=n/\dd=[bA W A S,di x]/\t=tF (fW W (gO A S x))
theorem VV (F:bN K "dealt_of" BU f fd)(T:Txt mg)(YC:a9 P w K mg base (k+3) "sum_of" f1 cG ["some"] NZ):bM P w K mg base (k+4) f fd ["shares", "one"] vd:=by
 refine bR F.d VU 'H' λdd t h=>?_
 obtain⟨W,n,A,S,x,w0,w1,bO,a6,x0,x1,rfl,rfl⟩:_:=h;have big:=cw;refine ay (cu (Ev.s (aU YC (br _) (ag (fQ (own:=["row"]) (fr:=[1]) (List.range A) (λa=>dD W (S a)) (λa=>tF (fW W (cj (S a) x))) (λi=>cv) (cy (ae 0 rfl) rfl) (bu 0 (λ_=>bT)) 'Q' (by grind) (λa ha=>⟨_,rfl,bj (ae 0 rfl) (ae 1 rfl) rfl (rowAt (bO a (l9.mp ha)) x0 x1)⟩) (λdd=>by cases dd<;>rfl)) ak) ⟨W,(List.range A).map λa=>cj (S a) x,w0,w1,λs hs=>?_,by grind,?_,rfl⟩)))
 ·obtain⟨a,ha,rfl⟩:=i8.mp hs;exact ph (bO a (l9.mp ha)) x
 ·show[er (.ow _)]=_;rw[fu];show[Dv.lst _]=[Dv.lst _]
  rw[i4];rfl
def nP (W:Int)(c:LI)(A:Nat)(S:Nat->LI):LI:=((List.range c.length).filter λj=>decide (gO A S ((j:Nat):Int)=(c.getD j 0)*W)).map λj=>((j:Nat):Int)
abbrev Bm:age:=top 27
theorem UE:aY ["counts", "shares"] ["counts", "shares"] (az Bm):=sk
def Qt:bG:=λdd t=>∃(c:LI) (W:Int) (A:Nat) (S:Nat->LI),c.length<=6/\0<W/\W<2^70/\(∀a,a<A->fD W c.length (S a))/\A<=6/\dd=[dis c,bA W A S]/\t=aA (nP W c A S)
theorem Ob (h : 0<W):(lT c 1,lB c 1)=fW W (c*W):=rS h 'Q' 'O'
theorem UG (F:bN K "full_things" Bm f fd)(T:Txt mg)(Ww:a9 P w K mg base (k+4) "dealt_of" f1 cG ["shares", "one"] vd)(mC:a9 P w K mg base (k+1) "fraction" f2 fd2 ["top", "bottom"] lJ)(B1:Binds K fd2 ["top", "bottom"] [.int 1 tk]):bM P w K mg base (k+5) f fd ["counts", "shares"] Qt:=by
 refine bR F.d UE 'H' λdd t h=>?_
 obtain⟨c,W,A,S,c6,w0,w1,bO,a6,rfl,rfl⟩:_:=h;have r25:k+2<=k+5:='O'
 have big:=cw;refine ay (cu (Ev.s (Ev.to (t':=aA (nP W c A S)) (zr (own:=["thing", "count"]) (fr:=[1]) (λi=>cv) (rL T.mB (ae 0 rfl) rfl) (iT 0 1 (λ_=>bT)) 'Q' (λk=>decide (gO A S ((k))=(c.getD k 0)*W)) (λk=>ti ((k))) ?_ (λk d hd=>?_) (λdd=>?_)) ?_)))
 ·rw[lA,aa];lia
 ·obtain⟨y,hy,rfl⟩:=lz hd;obtain⟨z,hz,rfl⟩:=gn hy;have hk:=(gz.mp hz).1;refine⟨_,rfl,?_,λ_=>ae 0 rfl⟩;have ez:c.getD k 0=z:=by rw[ir,hz];rfl
  rw[ez];exact jj (Et.to (yO (aU Ww (br _) (ag (ae 2 rfl) (ag (ae 0 rfl) ak)) ⟨W,c.length,A,S,((k)),w0,w1,bO,a6,'O','O',rfl,rfl⟩) (CF mC B1 r25 (ag (ae 1 rfl) ak) ⟨z,1,'Q','Q',rfl,rfl⟩) (.inr ⟨_,_,rfl,rfl⟩) (Cs (vb _) 'Q')) (by
   show bX (dF _) (dF _)=_;rw[Ob w0,Ep,af3];exact⟨λq=>yR w0 q,λq=>by rw[q]⟩))
 ·match dd with
  |[] => rfl
  |[_] => rfl
  |_::_::_=>rfl
 ·rw[lA,aa];show _=Tr.ow ((List.map _ _).map _);rw[i4]
  rfl
abbrev nLU:List Str:=["many", "pairs", "order", "rest", "free", "held"]
abbrev BV:age:=top 28
theorem oX:aY nLU ["many", "pairs"] (az BV):=sk
def Oc:bG:=λdd t=>∃(N:Nat) (ps:List (Nat×Nat)),1<=N/\N<=7/\ps.length<=49/\dd=[di N,.lst (ps.map λp=>dT (lP p))]/\t=aA (i9 ps N)
theorem adJ {α:Type}(p : α->Bool)(l:List α):(l.filter p).length<=l.length:=WA p l
theorem VW (F:bN K "lined_up" BV f fd)(T:Txt mg):bM P w K mg base k f fd ["many", "pairs"] Oc:=by
 refine bR F.d oX 'H' λdd t h=>?_
 obtain⟨N,ps,n1,n7,pl,rfl,rfl⟩:_:=h;have big:=cw;have nl:(aJ N).length=N:=by grind [aJ]
 have en:er (Tr.ow (((List.range ((N:Nat):Int).toNat).map λi=>(0+((i:Nat):Int))).map λn=>Tr.fz (di n)))=dis (aJ N):=by rw[pJ,List.map_id'];rfl
 refine aq (aT 2 (Ev.s (cf ak (AM _))) (λ_=>oX.nd)) ?_;refine aq (aT 3 (Ev.s (Ev.as (xM T.gH T.eG (ae 0 rfl) 'O' 'O') en)) (λ_=>oX.nd)) ?_;refine aq (aT 4 (Ev.s (ae 3 rfl)) (λ_=>oX.nd)) ?_;refine xK (α:=LI×LI×LI×Nat) (λa=>[some (ti N),some (.fz (.lst (ps.map λp=>dT (lP p)))),some (aA a.1),some (.fz (dis a.2.1)),some (.fz (dis a.2.2.1)),none]) (λa=>(a.2.2.1≠[]->a.2.1.length<a.2.2.2)/\a.1.length+a.2.1.length<=7/\i9 ps N=if a.2.2.1=[]then a.1 else tT ps a.2.2.2 a.1 a.2.1) (λa=>!a.2.2.1.isEmpty) (λa=>a.2.1.length+if a.2.2.1=[]then 0 else 1) ([],aJ N,aJ N,N+1) rfl ⟨λ_=>'J','J',?_⟩ (λa h=>?_) (λa h hp=>?_) (λa h hp=>?_)
 ·grind [i9]
 ·refine fI.to (Et.s (kn (ae 4 rfl) (cf ak (AM _)) (.inl ⟨_,_,rfl,rfl⟩) (Cs (lu _) 'Q'))) ?_;cases a.2.2.1<;>rfl
 ·obtain⟨o,r,fr,n⟩:=a;obtain⟨h1,h2,h3⟩:_:=h;dsimp only at h1 h2 h3 hp ⊢;have HR:fr≠[]:=λz=>'J'
  rw[rf HR]at h3;have h1:=h1 HR;have rl:=L5 ps r;cases n with
  |zero=>lia
  |succ n=>
   refine⟨(o++iE ps r,qk ps r,iE ps r,n),⟨λz=>?_,?_,?_⟩,?_,?_⟩
   ·have:=afv.mpr z
    grind
   ·grind
   ·grind [tT]
   ·rw[rf HR];by_cases z:iE ps r=[]
    ·simp_all
    ·have:=afv.mpr z
     grind
   ·refine aq (aT 5 (Ev.s (Ev.as (d:=dis (nk ps r)) (sF (own:=["a", "b"]) (fr:=[3]) ps (λp=>dT (lP p)) (λp=>r.contains (p.1:Int)) (λp=>ti (p.2:Int)) (λi=>cv) (cy (ae 1 rfl) rfl) (iT 0 1 (λ_=>bT)) 'Q' 'O' (λp hp=>⟨_,rfl,by exact jj (EY (ae 0 rfl) (ae 2 rfl) rfl (by with_unfolding_all rfl)),λ_=>by exact ae 1 rfl⟩) (λdd=>by match dd with | [] => rfl | [_] => rfl|_::_::_=>rfl)) ?_)) (λ_=>oX.nd)) ?_
    ·rw[fu];show _=Dv.lst ((List.map _ _).map di);rw[i4];rfl
    refine aq (uV 4 (zR (ig.to (t':=aA (iE ps r)) (zS (own:=["one"]) (fr:=[5]) r di (λx=>!(nk ps r).contains x) ti (cy (ae 3 rfl) rfl) (bu 0 (λ_=>bT)) 'Q' 'O' (λx hx=>⟨_,rfl,by exact jj (nU (ae 0 rfl) (ae 1 rfl) rfl (by with_unfolding_all rfl)),λ_=>by exact ae 0 rfl⟩) (λdd=>by cases dd<;>rfl)) rfl)) (λi=>cv) (λ_=>oX.nd)) ?_;refine aq (aT 3 (Ev.s (Ev.as (d:=dis (qk ps r)) (sF (own:=["one"]) (fr:=[5]) r di (λx=>(nk ps r).contains x) ti (λi=>cv) (cy (ae 3 rfl) rfl) (bu 0 (λ_=>bT)) 'Q' 'O' (λx hx=>⟨_,rfl,by exact jj (EY (ae 0 rfl) (ae 1 rfl) rfl (by with_unfolding_all rfl)),λ_=>by exact ae 0 rfl⟩) (λdd=>by cases dd<;>rfl)) ?_)) (λ_=>oX.nd)) ?_
    ·rw[pJ,List.map_id'];rfl
    refine aq (Wv 2 4 'Q' rfl rfl (by grind) (λi=>lr (lF GG PySem.F.slot_list_extend PySem.F.type_list_extend Jz (pv 2) (cm (pv 4) cR)))) ?_;refine oW 4 rfl (bP _) ?_;refine bt.to (X0 (ρ2:=[some (ti N),some (.fz (.lst (ps.map λp=>dT (lP p)))),some (.ow ((o.map λn=>.fz (di n))++(iE ps r).map λn=>.fz (di n))),some (.fz (dis (qk ps r))),some (.fz (dis (iE ps r))),none]) ⟨[5],rfl⟩) ?_
    simp_all
 ·obtain⟨o,r,fr,n⟩:=a;obtain⟨_,_,h3⟩:=h;dsimp only at h3 hp ⊢;have fe:fr=[]:=by
   simp_all
  rw[uu fe]at h3;rw[h3];exact ay (kh 2 rfl)
theorem Ks (l:List α)(m:Nat)(hm:m<=l.length):cutD l (some (m:Int)) none=l.drop m:=by
 unfold cutD;rw[HT.Y1,aga hm];rw[List.take_of_length_le (by rw[aec];exact br _)]
theorem yB (l:List α)(x : α):aF (l++[x]) (-1)=some x:=by
 unfold aF dW;rw[rf 'Q',xw,WJ,uu 'O',Option.bind_some,show(-1+((l.length+1:Nat):Int)).toNat=l.length by lia,wb (br _),aeH]
 rfl
abbrev nRG:List Str:=["rest", "wished", "path", "passed", "now"]
abbrev Bx:age:=top 29
theorem t8:aY nRG ["rest", "wished"] (az Bx):=sk
abbrev gF (ts:List (Int×Int×Int)):Dv:=.lst (ts.map λt=>dT (l3 t))
theorem Er (ts:List (Int×Int×Int)):er (tW ts)=gF ts:=by rw[fu];rfl
def Pw:bG:=λdd t=>∃(rest:LI) (ts:List (Int×Int×Int)),rest≠[]/\rest.length<=7/\ts.length<=126/\AB rest ts/\dd=[dis rest,gF ts]/\t=tW (AA rest ts)
theorem U4 (F:bN K "ring_among" Bx f fd)(T:Txt mg):bM P w K mg base k f fd ["rest", "wished"] Pw:=by
 refine bR F.d t8 'H' λdd t h=>?_
 obtain⟨rest,ts,HS,r7,tl,hH,rfl,rfl⟩:_:=h;have big:=cw;obtain⟨x0,rs,er0⟩:∃x0 rs,rest=x0::rs:=by
  cases rest with
  |nil=>exact absurd rfl HS
  |cons a l=>exact⟨a,l,rfl⟩
 have x0m:x0∈rest:='J'
 have hd0:rest.headD 0=x0:='J'
 refine aq (aT 2 (Ev.s (cf ak (AM _))) (λ_=>t8.nd)) ?_;refine aq (aT 3 (Ev.s (cf ak (AM _))) (λ_=>t8.nd)) ?_;refine aq (aT 4 (Ev.s (bj (ae 0 rfl) ai rfl (by rw[er0];exact dh rfl))) (λ_=>t8.nd)) ?_;refine xK (λa=>[some (.fz (dis rest)),some (.fz (gF ts)),some (tW (a.1.map (ip rest ts))),some (aA a.1),some (ti a.2.1)]) (λa=>tU rest ts a.1 a.2.1/\rest.length<a.2.2+a.1.length/\AA rest ts=xh rest ts a.2.2 a.1 a.2.1) (λa=>!a.1.contains a.2.1) (λa=>rest.length+1-a.1.length) ([],x0,rest.length+1) rfl ⟨⟨.nil,(λy h=>nomatch h),x0m,λi y z h=>by cases h⟩,'J',?_⟩ (λa h=>?_) (λa h hp=>?_) (λa h hp=>?_)
 ·show xh rest ts (rest.length+1) [] (rest.headD 0)=_;rw[hd0]
 ·exact Et.pk (nU (ae 4 rfl) (ae 3 rfl) (bP _) (by with_unfolding_all rfl))
 ·obtain⟨p,x,n⟩:=a;obtain⟨h1,h2,h3⟩:_:=h;dsimp only at h1 h2 h3 hp ⊢;have cJ:=h1.len;have hc:p.contains x=false:='J'
  cases n with
  |zero=>omega
  |succ n=>
   obtain⟨k1,k2,k3,rr,k4⟩:_:=Pu hH h1.HQ;have P2:=h1.more hH hc;generalize hpk:ip rest ts x=tt at k1 k2 k3 k4 P2;refine⟨(p++[x],tt.2.1,n),⟨P2,?_,?_⟩,?_,?_⟩
   ·grind
   ·grind [xh]
   ·grind
   ·refine aq (iQ 3 rfl (Ev.s (ae 4 rfl)) (by grind)) ?_;refine aq (iQ 2 rfl (Ev.s (bj (d:=dT (l3 tt)) (sF (own:=["wish"]) (fr:=[0,4]) ts (λt=>dT (l3 t)) (λt=>rest.contains t.2.1&&decide (t.2.2=x)) (λt=>.fz (dT (l3 t))) (λi=>cv) (cy (ae 1 rfl) rfl) (bu 0 (λ_=>bT)) 'Q' 'Z' (λt ht=>?_) (λdd=>by cases dd<;>rfl)) ai (fu ..) ?_)) (by grind)) ?_
    ·have a1:aF ((l3 t).map di) 1=some (di t.2.1):=rfl;have a2:aF ((l3 t).map di) 2=some (di t.2.2):=rfl;exact⟨_,rfl,jj (Ew.et (pH (EY (bF (ae 0 rfl) ai rfl a1) (ae 1 rfl) rfl (by with_unfolding_all rfl)) λ_=>(pD (gX (bF (ae 0 rfl) ai rfl a2) (ae 2 rfl))))),λ_=>ae 0 rfl⟩
    ·rw[k4];exact dh rfl
    have e2:er (.ow (((p.map (ip rest ts)).map λt=>Tr.fz (dT (l3 t)))++[Tr.fz (dT (l3 tt))]))=.lst (((p.map (ip rest ts)).map λt=>dT (l3 t))++[dT (l3 tt)]):=by
     rw[show Tr.ow (((p.map (ip rest ts)).map λt=>Tr.fz (dT (l3 t)))++[Tr.fz (dT (l3 tt))])=tW (p.map (ip rest ts)++[tt])from by simp,Er];simp
    have a1:aF ((l3 tt).map di) 1=some (di tt.2.1):=rfl;refine ay (Rn.to (aT 4 (Ev.pk (bF (bj (ae 2 rfl) (mX ai) e2 (yB _ _)) ai rfl a1) True.intro) (λ_=>t8.nd)) ?_)
    simp_all
 ·obtain⟨p,x,n⟩:=a;obtain⟨h1,h2,h3⟩:_:=h;dsimp only at h1 h2 h3 hp ⊢;have cJ:=h1.len;have hc:p.contains x=true:='O'
  have xm:=MW.mp hc;have e3:AA rest ts=((p.drop (p.idxOf x)).map (ip rest ts)).reverse:=by
   rw[h3];cases n with
   |zero=>omega
   |succ n=>
    show(if p.contains x=true then _ else _)=_;lia
  refine oW 2 rfl (Er _) ?_;refine oW 3 rfl (bP _) ?_;refine ay (cu (bB.to (Ev.s (Wr T.gH T.Ws (x9 (ae 2 rfl) rfl (uD (yf (ae 3 rfl) rfl (ae 4 rfl) xm)) C8))) ?_));rw[e3,Ks _ _ (by grind)];rw[<- af0,<- af0,<- List.map_reverse,i4]
  rfl
end
section
def g3 (d:LI):Int×Int×Int:=(d.getD 0 0,d.getD 1 0,d.getD 2 0)
def kY (n:Nat)(os:LL)(S:Nat->LI):List (Int×Int×Int):=(lR ((cE n os S os.length).map l3)).map g3
theorem acu (n:Nat)(os:LL)(S:Nat->LI):(kY n os S).map l3=lR ((cE n os S os.length).map l3):=by
 unfold kY;rw[i4];refine(List.map_congr_left λd hd=>?_).trans (aeX _);obtain⟨t,_,rfl⟩:=i8.mp ((uh _).mem_iff.mp hd)
 rfl
theorem uM (n:Nat)(os:LL)(S:Nat->LI):(kY n os S).Perm (cE n os S os.length):=by
 have:=(uh ((cE n os S os.length).map l3)).map g3;rw[i4]at this;exact this.trans (aeQ ((List.map_congr_left λt _=>rfl).trans (aeX _)))
def oQ (W:Int)(c:LI)(os:LL)(S:Nat->LI):List (Int×Int×Int):=(kY c.length os S).filter λt=>!(nP W c os.length S).contains t.2.1
def dg (c:LI)(os:LL)(S:Nat->LI):List (Nat×Nat):=kC (xf c.length os S)
def ql (W:Int)(c:LI)(os:LL)(S:Nat->LI):Tr:=
 match oQ W c os S with
 |t::_=>.fz (.tup [ds "left",di t.1,di t.2.1,di t.2.2])
 |[] => if dX (dg c os S) (c.length+1)=[]then .tp [tx "good",aA (i9 (dg c os S) (c.length+1))]else .tp [tx "ring",tW (AA (dX (dg c os S) (c.length+1)) (kY c.length os S))]
theorem vP {os:LL}(ok:eK c os)(ht:t∈cE c.length os S os.length) : 0<=t.2.1/\t.2.1<=c.length/\0<=t.2.2/\t.2.2<=c.length/\t.2.1≠t.2.2:=by
 obtain⟨a,j,ha,hj,_,x,hx,rfl⟩:_:=CN.mp ht;have om:os.getD a []∈os:=by
  simp_all
 have h1:=(jc (ok.bK _ om)).mp (EN hx);have h2:=(jc (ok.bK _ om)).mp (ba (yi hj));refine⟨h1.1,h1.2,h2.1,h2.2,λz=>?_⟩;have nd:=(nc ok.c6 (ok.nd _ om) (ok.bK _ om)).2;obtain⟨i,hi,ei⟩:=aey.mp hx
 grind [List.getElem_inj]
theorem Od {os:LL}(h:p∈dg c os S):∃t∈cE c.length os S os.length,p=(t.2.1.toNat,t.2.2.toNat):=by
 have h:=(B0.mp h).2
 grind [xf]
theorem abz {os:LL}(ok:eK c os):AB (dX (dg c os S) (c.length+1)) (kY c.length os S):=λx hx=>by
 obtain⟨p,h1,h2,rfl⟩:=L7 hx;obtain⟨t,ht,rfl⟩:=Od h1;have hi:=vP ok ht
 grind [uM]
theorem YD (ps:List (Nat×Nat)):(kC ps).length<=49:=Cs (WA _ _) 'Q'
abbrev nJU:List Str:=["table", "shares", "many", "wished", "full", "left", "order", "rest"]
abbrev CT:age:=top 30
theorem o7:aY nJU ["table", "shares"] (az CT):=sk
def Gq:bG:=λdd t=>∃(c:LI) (os:LL) (W:Int) (S:Nat->LI),eK c os/\0<W/\W<2^70/\(∀a,a<os.length->fD W c.length (S a))/\dd=[fF c os,bA W os.length S]/\t=ql W c os S
theorem Xp (F:bN K "judged" CT f fd)(T:Txt mg)(CP:a9 P w K mg base (k+2) "wishes" f1 cG ["table", "shares"] Fy)(U5:a9 P w K mg base (k+5) "full_things" f2 fd2 ["counts", "shares"] Qt)(Wx:a9 P w K mg base k "lined_up" f3 ra ["many", "pairs"] Oc)(Vt:a9 P w K mg base (k+3) "over_pairs" f4 fd4 ["table", "shares"] Pr)(Vu:a9 P w K mg base k "ring_among" f5 fd5 ["rest", "wished"] Pw):bM P w K mg base (k+6) f fd ["table", "shares"] Gq:=by
 refine bR F.d o7 'H' λdd t h=>?_
 obtain⟨c,os,W,S,ok,w0,w1,bO,rfl,rfl⟩:_:=h;have big:=cw;have o6:=ok.o6;have c6:=ok.c6;have fl:=λo ho=>(nc c6 (ok.nd o ho) (ok.bK o ho)).1
 have wl:=pj S fl os.length (br _);have wl2:(kY c.length os S).length<=126:=by rw[(uM _ _ _).length_eq];lia
 obtain⟨N,eN⟩:∃N,N=c.length+1:=⟨_,rfl⟩
 have ew:er (.ow ((lR ((cE c.length os S os.length).map l3)).map λd=>.fz (dT d)))=gF (kY c.length os S):=by
  rw[fu,<- acu,i4];rfl
 refine aq (aT 2 (bB.to (t':=ti N) (Ev.s (fA (bY T.bU (bF (d:=dis c) (ae 0 rfl) ai rfl rfl) (.inl rfl)) ai)) 'J') (λ_=>o7.nd)) ?_;refine aq (aT 3 (Ev.s (Ev.as (d:=gF (kY c.length os S)) (aU CP (by show k+3<=k+6;lia) (ag (ae 0 rfl) (ag (ae 1 rfl) ak)) ⟨c,os,W,S,ok,bO,rfl,rfl⟩) ew)) (λ_=>o7.nd)) ?_;refine aq (aT 4 (Ev.s (Ev.as (aU U5 (br _) (ag (bF (d:=dis c) (ae 0 rfl) ai rfl rfl) (ag (ae 1 rfl) ak)) ⟨c,W,os.length,S,c6,w0,w1,bO,o6,rfl,rfl⟩) (bP _))) (λ_=>o7.nd)) ?_;refine aq (uV 5 (zR (ig.as (d:=gF (oQ W c os S)) (zS (own:=["wish"]) (fr:=[4]) (kY c.length os S) (λt=>dT (l3 t)) (λt=>!(nP W c os.length S).contains t.2.1) (λt=>.fz (dT (l3 t))) (cy (ae 3 rfl) rfl) (bu 0 (λ_=>bT)) 'Q' 'O' (λt ht=>?_) (λdd=>by cases dd<;>rfl)) (fu ..))) (λi=>cv) (λ_=>o7.nd)) ?_
 ·have a1:aF ((l3 t).map di) 1=some (di t.2.1):=rfl;exact⟨_,rfl,jj (nU (bF (ae 0 rfl) ai rfl a1) (ae 1 rfl) rfl (by with_unfolding_all rfl)),λ_=>ae 0 rfl⟩
 have RT:∀l:List (Int×Int×Int),de (gF l)<=50:=λl=>Cs (rR (n:=1) λd hd=>by
  grind [abn]) 'Q'
 unfold ql;cases hl:oQ W c os S with
 |cons t l=>
  dsimp only;have jX:aF ((t::l).map λt=>dT (l3 t)) 0=some (dT (l3 t)):=by exact dh rfl
  have a0:aF ((l3 t).map di) 0=some (di t.1):=rfl;have a1:aF ((l3 t).map di) 1=some (di t.2.1):=rfl;have a2:aF ((l3 t).map di) 2=some (di t.2.2):=rfl;refine rQ (jM (Et.s (kn (ae 5 rfl) (cf ak (AM _)) (.inl ⟨_,_,rfl,rfl⟩) (RT _))) rfl (ay (cu (Ev.s (kg (ag yN (ag (bF (bj (ae 5 rfl) ai rfl jX) ai rfl a0) (ag (bF (bj (ae 5 rfl) ai rfl jX) ai rfl a1) (ag (bF (bj (ae 5 rfl) ai rfl jX) ai rfl a2) ak)))) rfl (by grind))))))
 |nil=>
  dsimp only;refine aq (cQ (Et.s (kn (ae 5 rfl) (cf ak (AM _)) (.inl ⟨_,_,rfl,rfl⟩) (RT _))) rfl) ?_;have eo:er (RP (kC (xf c.length os S)))=.lst ((dg c os S).map λp=>dT (lP p)):=by rw[fu,i4];rfl
  refine aq (aT 6 (bB.to (t':=aA (i9 (dg c os S) N)) (Ev.s (aU Wx (by show k+1<=k+6;lia) (ag (ae 2 rfl) (ag (aU Vt (by show k+4<=k+6;lia) (ag (ae 0 rfl) (ag (ae 1 rfl) ak)) ⟨c,os,W,S,ok,bO,rfl,rfl⟩) ak)) ⟨N,dg c os S,'O','O',YD _,?_,rfl⟩)) rfl) (λ_=>o7.nd)) ?_
  rotate_left
  ·show[di _,er _]=_;rw[eo]
  refine aq (uV 7 (acV (ig.to (t':=aA (dX (dg c os S) N)) (zS (own:=["one"]) (fr:=[6]) (aJ N) di (λx=>!(i9 (dg c os S) N).contains x) ti (bb.to (gj T.eG (ae 2 rfl) ⟨'O','O'⟩) ?_) (bu 0 (λ_=>bT)) 'Q' (by grind [aJ]) (λx hx=>⟨_,rfl,by exact jj (nU (ae 0 rfl) (ae 1 rfl) (bP _) (by with_unfolding_all rfl)),λ_=>by exact ae 0 rfl⟩) (λdd=>by cases dd<;>rfl)) rfl) (yw _)) (λi=>cv) (λ_=>o7.nd)) ?_
  ·simp_all [aJ]
  have rl:(dX (dg c os S) N).length<=7:=Cs (WA _ _) (by grind [aJ]);refine oW (d:=dis (dX (dg c os S) N)) 7 rfl (bP _) ?_;rw[<- eN];by_cases hr:dX (dg c os S) N=[]
  ·rw[uu hr];refine aq (cQ (fI.to (q:=false) (Et.s (kn (ae 7 rfl) (cf ak (AM _)) (.inl ⟨_,_,rfl,rfl⟩) (Cs (lu _) 'Q'))) (by rw[hr];rfl)) rfl) ?_;exact ay (aaj 6 rfl (λi=>kl (DK (cm MC (cm (pv 6) cR)))))
  ·rw[rf hr];refine rQ (jM (fI.to (q:=true) (Et.s (kn (ae 7 rfl) (cf ak (AM _)) (.inl ⟨_,_,rfl,rfl⟩) (Cs (lu _) 'Q'))) ?_) rfl (ay (cu (Ev.s (pI (ag yN (ag (aU Vu (by show k+1<=k+6;lia) (ag (ae 7 rfl) (ag (ae 3 rfl) ak)) ⟨dX (dg c os S) N,kY c.length os S,hr,rl,wl2,by rw[eN];exact abz ok,rfl,rfl⟩) ak)) (by grind))))));cases h:dX (dg c os S) N with
   |nil=>exact absurd h hr
   |cons _ _=>rfl
end
section
theorem count_set (l:LI)(i:Nat)(w y:Int):(l.set i w).count y<=l.count y+if y=w then 1 else 0:=by
 induction l generalizing i with
 |nil=>simp
 |cons a l ih=>
  cases i with
  |zero=>
   grind
  |succ i=>
   grind
structure Cq (c:LI) (s:LI×LI):Prop where
 len:s.1.length=c.length
 le:∀x:Nat,x<c.length->((s.2.count (x:Int):Nat):Int)+s.1.getD x 0<=c.getD x 0/\0<=s.1.getD x 0
theorem L8 {c:LI}{s:LI×LI}(q:Cq c s){w:Int}{i:Nat}(w0 : 0<=w)(hp : 0<s.1.getD w.toNat 0):Cq c (s.1.set w.toNat (s.1.getD w.toNat 0-1),s.2.set i w):=by
 refine⟨by rw[PM];exact q.len,λx hx=>?_⟩;have h:=q.le x hx;have hc:=count_set s.2 i w x;have hl:=q.len;dsimp only;by_cases e:x=w.toNat
 ·subst e;have e2:(s.1.set w.toNat (s.1.getD w.toNat 0-1)).getD w.toNat 0=s.1.getD w.toNat 0-1:=by
   rw[ir,aab 'O'];rfl
  rw[e2];have:(if((w.toNat:Nat):Int)=w then 1 else 0)<=1:=by split<;>lia
  lia
 ·have e2:(s.1.set w.toNat (s.1.getD w.toNat 0-1)).getD x 0=s.1.getD x 0:=by
   rw[ir,EU (ad7 e),<- ir]
  rw[e2];rw[rf 'O']at hc;lia
theorem Kt (h0:∀x∈c,0<=x)(hd:∀x∈d,x=(c.length:Int)):Cq c (c,d):=by
 refine⟨rfl,λx hx=>?_⟩;have:d.count (x:Int)=0:=List.count_eq_zero.mpr λz=>by grind
 simp_all
theorem Oe (h0:∀x∈c,0<=x):∀k,Cq c (iC sm c A k)
 |0=>Kt h0 λx hx=>by obtain⟨_,_,rfl⟩:=i8.mp hx;rfl
 |k+1=>by
  have ih:=Oe (sm:=sm) (A:=A) h0 k;show Cq c (kD sm c.length A k (iC sm c A k));unfold kD;split
  ·rename_i h
   rw[Lo,LM,LM]at h;exact L8 ih (Sk _ 'O') h.2
  ·exact ih
theorem JO:∀{l:LI} {s:LI×LI},Cq c s->(∀x∈l,0<=x)->Cq c (l.foldl (gI c.length a) s)
 |[],_,h,_=>h
 |x::l,s,h,hl=>by
  rw[aeJ];refine JO ?_ λy hy=>hl y (.tail _ hy)
  unfold gI;split
  ·rename_i hh
   rw[Lo,LM,LM]at hh;exact L8 h (hl x (.head _)) hh.2
  ·exact h
theorem L9 {os:LL}(h0:∀x∈c,0<=x)(h:∀o∈os,∀x∈o,0<=x/\x<(c.length:Int)):∀k,Cq c (cC sm cell c os k).2
 |0=>Kt h0 λx hx=>'J'
 |k+1=>JO (L9 h0 h k) λx hx=>(Em h _ _ x hx).1
theorem abA {os:LL}(ok:eK c os)(y:Int)(hx:x<c.length):(((cY c os y).count (x:Int):Nat):Int)<=c.getD x 0:=by
 have h0:=λx hx=>(ok.cnt x hx).1
 unfold cY;split
 ·have:=(Oe (sm:=cX (y/4) (os.length+1)) (A:=os.length) h0 os.length).le x hx;unfold qj;lia
 ·have:=(L9 (sm:=cX (y/4) (os.length+1)) (cell:=y) h0 ok.bK os.length).le x hx;unfold pT;lia
theorem sum_add {α:Type}(l:List α)(f g : α->Int):(l.map λa=>f a+g a).sum=(l.map f).sum+(l.map g).sum:=by
 induction l with
 |nil=>rfl
 |cons a l ih=>rw[JJ,JJ,JJ,Nd,Nd,Nd,ih];lia
theorem Ma (w x:Int):∀d:LI,(d.map λy=>if y=x then w else 0).sum=w*((d.count x:Nat):Int)
 |[] => by simp
 |a::d=>by
  rw[JJ,Nd,Ma w x d,List.count_cons]
  grind
theorem Xq {α:Type}(d:LI)(f:Int->α):(List.range d.length).map (λa=>f (d.getD a 0))=d.map f:=by
 refine OE λi=>?_
 grind
theorem Og {os:LL}(ok:eK c os)(hx:x<c.length):∀cells,((List.range os.length).map λ(a:Nat)=>hU cells c os (0+(a:Int)) x).sum<=c.getD x 0*cA cells
 |[] => by
  have:((List.range os.length).map λ(a:Nat)=>hU [] c os (0+(a)) x)=(List.range os.length).map λ_=>(0):=List.map_congr_left λa _=>rfl
  rw[this];have z:∀l:List Nat,(l.map λ_=>(0:Int)).sum=0:=by
   intro l
   induction l with
   |nil=>rfl
   |cons _ _ ih=>rw[JJ,Nd,ih];rfl
  rw[z];show(0)<=c.getD x 0*0;lia
 |y::ys=>by
  have ih:=Og ok hx ys;have dl:=(Dz ok.bK y).1;have e:((List.range os.length).map λ(a:Nat)=>hU (y::ys) c os (0+(a)) x)=(List.range os.length).map λ(a)=>(if(cY c os y).getD a 0=(x)then wF y else 0)+hU ys c os (0+(a)) x:=List.map_congr_left λa _=>by
   unfold hU
   grind
  rw[e,sum_add];have e2:((List.range os.length).map λa=>if(cY c os y).getD a 0=(x)then wF y else 0)=(cY c os y).map λz=>if z=(x:Int)then wF y else 0:=by
   grind [Xq]
  rw[e2,Ma];have hc:=abA ok y hx;have hw:=Fx y;have es:cA (y::ys)=wF y+cA ys:='X'
  rw[es,aeE,Int.mul_comm (c.getD x 0) (wF y)];have:=Int.mul_le_mul_of_nonneg_left hc (show 0<=wF y by lia);lia
theorem aak {c:LI}{os:LL}(hx:x<=c.length):cj (dJ cells c os a) (x:Int)=hU cells c os a x:=by
 unfold cj dJ;rw[BY,ir,l8];have:(aJ (c.length+1))[x]?=some (x:Int):=by
  unfold aJ;rw[l8,IF 'O'];show some (0+(x:Int))=_;rw[ad5]
 rw[this];rfl
end
section
def adl:age->List age
 | .ClassDef _ _ _ b _ _ _ _ _ _ _=>b
 |_=>[]
abbrev nQ (j:Nat):age:=(adl (top 32)).getD j (.Pass ⟨0,0,0,0⟩)
structure Ms where
 A:Nat
 M:Nat
 O:Nat->List Nat
 s:af.St
abbrev iN (l:List Nat):LI:=l.map λ(x:Nat)=>(x:Int)
abbrev bC (m:Nat)(f:Nat->Int):LI:=(List.range m).map f
abbrev kZ (a m:Nat)(f:Nat->Nat->Int):Dv:=.lst ((List.range a).map λx=>dis (bC m (f x)))
abbrev orM (st:Ms):Dv:=.lst ((List.range st.A).map λx=>dis (iN (st.O x)))
def Th (K:Frag)(C:adV)(st:Ms)(G:Hp)(m:adV):Prop:=∃dx v1 v2 v3 v4 v5,G m=some (.ins C dx [("orders",v1),("owned",v2),("spare",v3),("got",v4),("wanted",v5)])/\Hv K G (orM st) v1/\Hv K G (kZ st.A st.M st.s.own) v2/\Hv K G (dis (bC st.M st.s.sp)) v3/\Hv K G (kZ st.A st.M st.s.got) v4/\Hv K G (dis (bC st.A st.s.wn)) v5
theorem Th.mono (e:aj G G')(h:Th K C st G m):Th K C st G' m:=by
 obtain⟨dx,v1,v2,v3,v4,v5,h0,h1,h2,h3,h4,h5⟩:_:=h;exact⟨dx,v1,v2,v3,v4,v5,e _ _ h0,h1.mono e,h2.mono e,h3.mono e,h4.mono e,h5.mono e⟩
structure k6 (K:Frag) (C:adV):Prop where
 cl:i3 K C
 n1:jL K C "orders"
 n2:jL K C "owned"
 n3:jL K C "spare"
 n4:jL K C "got"
 n5:jL K C "wanted"
structure Km (P:agc) (w:agd) (K:Frag) (mg:Str->Option vn) (base:Heap) (C:adV) (m:Str) (k:Nat) (f:adV) (fd:FuncData) (ps:List Str) (sp:Sp):Prop where
 m:Meth K C m f
 ok:bS P w K mg base bx k f fd ps sp
 b:Binds K fd ps []
theorem lz {k:Nat}(h:(gL xs)[k]?=some d):∃x,xs[k]?=some x/\d=.tup [di k,x]:=by
 unfold gL at h;rw[Pd]at h;cases e:xs[k]? with
 |none=>rw[e]at h;cases e2:(List.range xs.length)[k]?<;>rw[e2]at h<;>cases h
 |some x=>
  rw[e,IF (gz.mp e).1]at h;exact⟨x,rfl,(FF h).symm⟩
theorem lA (xs:List Dv):(gL xs).length=xs.length:=by grind [gL]
theorem yY (h:((bC m f).map di)[k]?=some d):k<m/\d=di (f k):=by
 rw[l8,l8]at h;obtain l|l:=EM k m
 ·rw[IF l]at h;exact⟨l,(FF h).symm⟩
 ·rw[Mc (by rw[vc];exact l)]at h;cases h
theorem yZ {g:Nat->Dv}(h:((List.range a).map g)[k]?=some d):k<a/\d=g k:=by
 grind
theorem sX (f:Nat->Int)(h:k<m):aF ((bC m f).map di) (k:Int)=some (di (f k)):=dh 'J'
theorem Px (g:Nat->Dv)(h:k<a):aF ((List.range a).map g) (k:Int)=some (g k):=dh 'J'
theorem nR {K:Frag}{G:Hp}{ρ:En}{σ:St}(h:∀x∈ρ,x=none):aX K G ρ σ:=λj d e=>by
 cases h _ (ba e)
theorem xi {K:Frag}{G:Hp}{ρ:En}{σ:St}{o:Option V}(h:aX K G ρ σ):aX K G (none::ρ) (o::σ):=λj d e=>by
 cases j with
 |zero=>cases e
 |succ j=>exact h j d e
theorem gh {K:Frag}{G:Hp}{ρ:En}{σ:St}{d:Dv}{v:V}(x:Hv K G d v)(h:aX K G ρ σ):aX K G (some (.fz d)::ρ) (some v::σ):=λj d e=>by
 cases j with
 |zero=>cases e;exact⟨v,rfl,x⟩
 |succ j=>exact h j d e
theorem DA {K:Frag}{G:Hp}{σ:St}:aX K G [none] σ:=nR 'Y'
theorem Mb {K:Frag}{G:Hp}{v:V}{d:Dv}{r:St}{o:Option V}(h:Hv K G d v):aX K G [none,some (.fz d)] (o::some v::r):=xi (gh h (nR 'Y'))
theorem oB {α:Type}{l:List α}{n:Nat}(h:l.length=n+1):∃a r,l=a::r/\r.length=n:=by
 cases l with
 |nil=>cases h
 |cons a r=>exact⟨a,r,rfl,Nat.succ.inj h⟩
theorem Es (A:Nat)(p:Nat->Bool):Tr.ow (((List.range A).filter p).map λ(k:Nat)=>ti (k:Int))=aA (iN ((List.range A).filter p)):=by
 simp_all
section
abbrev jI (K:Frag)(C:adV)(st:Ms)(N:List Str)(dd:List Dv):Hp->St->Prop:=λG σ => ∃a rest,σ=start N (.ref a::rest)/\Th K C st G a/\aH K G dd rest
theorem Eu:Mo (jI K C st N dd):=λG G' σ e z9=>by obtain⟨a,rest,h1,h2,h3⟩:_:=z9;exact⟨a,rest,h1,h2.mono e,h3.mono e⟩
theorem Gr (h:jI K C st N dd G σ):∃a dx v1 v2 v3 v4 v5,σ[0]?=some (some (.ref a))/\G a=some (.ins C dx [("orders",v1),("owned",v2),("spare",v3),("got",v4),("wanted",v5)])/\Hv K G (orM st) v1/\Hv K G (kZ st.A st.M st.s.own) v2/\Hv K G (dis (bC st.M st.s.sp)) v3/\Hv K G (kZ st.A st.M st.s.got) v4/\Hv K G (dis (bC st.A st.s.wn)) v5:=by
 obtain⟨a,rest,e,h,_⟩:_:=h;obtain⟨dx,v1,v2,v3,v4,v5,h0,hh⟩:_:=h;exact⟨a,dx,v1,v2,v3,v4,v5,by rw[e];rfl,h0,hh⟩
theorem Qu (G:Hp)(σ:St)(h:jI K C st N dd G σ):∃m dx fs v,σ[0]?=some (some (.ref m))/\G m=some (.ins C dx fs)/\fs.lookup ("owned":Str)=some v/\Hv K G (kZ st.A st.M st.s.own) v:=by
 obtain⟨a,dx,v1,v2,v3,v4,v5,e,h0,h1,h2,h3,h4,h5⟩:_:=Gr h;exact⟨a,dx,_,v2,e,h0,rfl,h2⟩
theorem vQ (G:Hp)(σ:St)(h:jI K C st N dd G σ):∃m dx fs v,σ[0]?=some (some (.ref m))/\G m=some (.ins C dx fs)/\fs.lookup ("spare":Str)=some v/\Hv K G (dis (bC st.M st.s.sp)) v:=by
 obtain⟨a,dx,v1,v2,v3,v4,v5,e,h0,h1,h2,h3,h4,h5⟩:_:=Gr h;exact⟨a,dx,_,v3,e,h0,rfl,h3⟩
theorem adn (G:Hp)(σ:St)(h:jI K C st N dd G σ):∃m dx fs v,σ[0]?=some (some (.ref m))/\G m=some (.ins C dx fs)/\fs.lookup ("wanted":Str)=some v/\Hv K G (dis (bC st.A st.s.wn)) v:=by
 obtain⟨a,dx,v1,v2,v3,v4,v5,e,h0,h1,h2,h3,h4,h5⟩:_:=Gr h;exact⟨a,dx,_,v5,e,h0,rfl,h5⟩
theorem pN (G:Hp)(σ:St)(h:jI K C st N [d] G σ):aX K G [none,some (.fz d)] σ:=by
 obtain⟨a,rest,e,_,hv⟩:_:=h;obtain⟨v,rfl,h1⟩:=iA hv;rw[e];exact Mb h1
abbrev Ct:age:=nQ 1
theorem Wy:aY ["self"] ["self"] (az Ct):=sk
def zW (st:Ms)  : bG:=λdd t=>st.A<=6/\dd=[]/\t=aA (iN (af.cW st.A st.s))
theorem Wz (F:fE K "wanting" "Market.wanting" Ct .none f fd)(T:Txt mg)(U:k6 K C):bS P w K mg base bx (k+1) f fd ["self"] (gg K (Th K C) zW):=by
 refine yW F Wy (λst dd t h=>by obtain⟨_,rfl,_⟩:=h;rfl) (λτ h i=>gG (kl (h i))) λst dd t h=>?_
 obtain⟨hA,rfl,rfl⟩:=h;have big:=cw;have el:(gL ((bC st.A st.s.wn).map di)).length=st.A:=by grind [lA]
 refine a8.to (se (own:=["asker", "parts"]) (fr:=[]) (λi=>cv) (λG σ _=>DA) (Ck T.mB (jK 0 U.cl U.n5 adn (λi=>pv 0)) rfl) (iT 0 1 (λ_=>bT)) 'Q' (λk=>decide (0<st.s.wn k)) (λk=>ti (k)) 'O' (λk d hd=>?_)) ?_
 ·obtain⟨x,hx,rfl⟩:=lz hd;obtain⟨hk,rfl⟩:=yY hx;exact⟨_,rfl,jj (kx (ae 1 rfl) ai),λ_=>ae 0 rfl⟩
 ·rw[el];exact Es _ _
abbrev CU:age:=nQ 2
theorem Xr:aY ["self", "one"] ["self", "one"] (az CU):=sk
def Gs (st:Ms)  : bG:=λdd t=>∃x:Nat,st.A<=6/\x<st.M/\dd=[di x]/\t=aA (iN (af.owners st.A st.s x))
theorem Xs (F:fE K "owners" "Market.owners" CU .none f fd)(T:Txt mg)(U:k6 K C):bS P w K mg base bx (k+1) f fd ["self", "one"] (gg K (Th K C) Gs):=by
 refine yW F Xr (λst dd t h=>by obtain⟨_,_,_,rfl,_⟩:=h;rfl) (λτ h i=>gG (kl (h i))) λst dd t h=>?_
 obtain⟨x,hA,hx,rfl,rfl⟩:=h;have big:=cw;have el:(gL ((List.range st.A).map λa=>dis (bC st.M (st.s.own a)))).length=st.A:=by grind [lA]
 refine a8.to (se (own:=["asker", "row"]) (fr:=[1]) (λi=>cv) pN (Ck T.mB (jK 0 U.cl U.n2 Qu (λi=>pv 0)) rfl) (iT 0 1 (λ_=>bT)) 'Q' (λk=>decide (0<st.s.own k x)) (λk=>ti (k)) 'O' (λk d hd=>?_)) ?_
 ·obtain⟨y,hy,rfl⟩:=lz hd;obtain⟨hk,rfl⟩:=yZ hy;exact⟨_,rfl,jj (kx (bj (ae 1 rfl) (ae 2 rfl) rfl (sX _ hx)) ai),λ_=>ae 0 rfl⟩
 ·rw[el];exact Es _ _
abbrev Ex:age:=nQ 3
theorem aal:aY ["self"] ["self"] (az Ex):=sk
def Qv (st:Ms)  : bG:=λdd t=>st.A<=6/\st.M<=7/\dd=[]/\t=aA (iN ((List.range st.M).filter (af.cB st.A st.s)))
abbrev gW (K:Frag)(C:adV)(st:Ms)(j:Nat):Hp->St->Prop:=λG σ => ∃m,σ[j]?=some (some (.ref m))/\Th K C st G m
theorem ve {st:Ms}{d0 d1:Dv}{G:Hp}{σ:St}(h:∃ao vs,gW K C st 2 G ao/\ao.length=2+1/\aH K G [d0,d1] vs/\σ=a7 [0,1] vs ao):aX K G [some (.fz d0),some (.fz d1),none] σ/\gW K C st 2 G σ:=by
 obtain⟨ao,vs,⟨m,hm,ht⟩,l,hv,e⟩:_:=h;obtain⟨x,y,rfl,hx,hy⟩:_:=p8 hv;obtain⟨s0,_,rfl,l1⟩:_:=oB l;obtain⟨s1,r,rfl,_⟩:_:=oB l1;subst e;exact⟨gh hx (gh hy (nR 'Y')),m,hm,ht⟩
theorem Qw (l:LI):bX (dis l) (.lst [])=l.isEmpty:=by cases l<;>rfl
theorem aam (F:fE K "gone" "Market.gone" Ex .none f fd)(T:Txt mg)(U:k6 K C)(pA:Km P w K mg base C "owners" (k+1) fo fdo ["self", "one"] (gg K (Th K C) Gs)):bS P w K mg base bx (k+2) f fd ["self"] (gg K (Th K C) Qv):=by
 refine yW F aal (λst dd t h=>by obtain⟨_,_,rfl,_⟩:=h;rfl) (λτ h i=>gG (kl (h i))) λst dd t h=>?_
 obtain⟨hA,hM,rfl,rfl⟩:=h;have big:=cw;have el:(gL ((bC st.M st.s.sp).map di)).length=st.M:=by rw[lA,aa,aa,vc]
 refine a8.to (va (Ψ:=gW K C st 2) (own:=["one", "parts"]) (fr:=[0]) (λi=>cv) (Ck T.mB (jK 0 U.cl U.n3 vQ (λi=>pv 0)) rfl) (iT 0 1 (λ_=>bT)) 'Q' (af.cB st.A st.s) (λk=>ti (k)) (by rw[el];lia) (λG G' σ e ⟨m,h1,h2⟩=>⟨m,h1,h2.mono e⟩) (λG σ z9=>by obtain⟨a,rest,e,h,_⟩:_:=z9;exact⟨a,by rw[e];rfl,h⟩) (λG σ vs ⟨m,h1,h2⟩=>⟨m,?_,h2⟩) (λq d hd=>?_)) ?_
 ·obtain _|⟨x,_|⟨y,r⟩⟩:=vs
  ·exact h1
  ·show(σ.set 0 _)[2]?=_;rw[EU 'Q'];exact h1
  ·show((σ.set 0 _).set 1 _)[2]?=_;rw[EU 'Q',EU 'Q'];exact h1
 ·obtain⟨x,hx,rfl⟩:=lz hd;obtain⟨hq,rfl⟩:=yY hx;have xk:Mo λG σ => ∃ao vs,gW K C st 2 G ao/\ao.length=2+1/\aH K G [di q,di (st.s.sp q)] vs/\σ=a7 [0,1] vs ao:=λG G' σ e z9=>by obtain⟨ao,vs,⟨m,h1,h2⟩,l,hv,es⟩:_:=z9;exact⟨ao,vs,⟨m,h1,h2.mono e⟩,l,hv.mono e,es⟩
  refine⟨_,rfl,Z6 (iO.to (Z5 xk (Et.p (gX (ae 1 rfl) ai) λG σ h=>(ve h).1) λ_=>Z4 (tb':=.ow []) xk (yg 2 U.cl pA.m pA.ok (br _) pA.b (λG σ h=>?hs) (λ_ _ _ e t=>t.mono e) ?ha ⟨q,hA,hq,rfl,rfl⟩ (λi=>pv 2)) ?hn (.inl ⟨_,_,bP _,rfl⟩) (by rw[bP];exact Cs (lu _) 'Q')) ?hv),λ_=>Ev.p (ae 0 rfl) λG σ h=>(ve h).1⟩
  case hs=>
   obtain⟨m,h1,h2⟩:=(ve h).2;obtain⟨dx,v1,v2,v3,v4,v5,h0,_⟩:_:=id h2;exact⟨m,dx,_,h1,h0,rfl,h2⟩
  case ha=>exact mG xk (Ev.p (ae 0 rfl) λG σ h=>(ve h).1) rM
  case hn=>exact Ev.p (cf ak (AM _)) λG σ h=>(ve h).1
  case hv=>
   rw[bP];show(decide (st.s.sp q=0)&&bX (dis (iN (af.owners st.A st.s q))) (.lst []))=_;rw[Qw];unfold af.cB iN;rw[List.isEmpty_map]
 ·rw[el];exact Es _ _
abbrev DB:age:=nQ 4
theorem YF:aY ["self", "one"] ["self", "one"] (az DB):=sk
def Qx (st:Ms)  : bG:=λdd t=>∃x:Nat,st.A<=6/\x<st.M/\(0<st.s.sp x->af.cW st.A st.s≠[])/\(¬0<st.s.sp x->af.owners st.A st.s x≠[])/\dd=[di x]/\t=ti (af.sW st.A st.s x)
theorem Fz (h:l≠[]):aF ((iN l).map di) 0=some (di ((l.headD 0:Nat):Int)):=by
 cases l with
 |nil=>exact absurd rfl h
 |cons a l=>exact dh rfl
theorem Qy {st:Ms}{N:List Str}{dd:List Dv}(m:Str)(hm:[("orders":Str), "owned", "spare", "got", "wanted"].contains m=false)(G:Hp)(σ:St)(h:jI K C st N dd G σ):∃a dx fs,σ[0]?=some (some (.ref a))/\G a=some (.ins C dx fs)/\fs.lookup m=none/\Th K C st G a:=by
 obtain⟨a,rest,e,h,_⟩:_:=h;obtain⟨dx,v1,v2,v3,v4,v5,h0,_⟩:_:=id h;refine⟨a,dx,_,by rw[e];rfl,h0,?_,h⟩;simp only[afH,afj,List.contains_nil]at hm;simp only[LG,hm,List.lookup_nil]
theorem YG (F:fE K "giver" "Market.giver" DB .none f fd)(T:Txt mg)(U:k6 K C)(j7:Km P w K mg base C "wanting" (k+1) fw RU ["self"] (gg K (Th K C) zW))(pA:Km P w K mg base C "owners" (k+1) fo fdo ["self", "one"] (gg K (Th K C) Gs)):bS P w K mg base bx (k+2) f fd ["self", "one"] (gg K (Th K C) Qx):=by
 refine yW F YF (λst dd t h=>by obtain⟨_,_,_,_,_,rfl,_⟩:=h;rfl) (λτ h i=>gG (kl (h i))) λst dd t h=>?_
 obtain⟨x,hA,hx,h1,h2,rfl,rfl⟩:=h;have mo:Mo (jI K C st ["self", "one"] [di x]):=Eu;refine abt mo (NR mo (mZ mo (jK 0 U.cl U.n3 vQ (λi=>pv 0)) (Ev.p (by exact ae 1 rfl) pN) rfl (sX _ hx)) (Ev.p (ai) pN)) (λhp=>?_) λhp=>?_
 ·have hp:=GS hp;unfold af.sW;rw[uu hp];exact mZ mo (xV 0 U.cl j7.m j7.ok (br _) j7.b (Qy "wanting" 'W') ⟨hA,rfl,rfl⟩ (λi=>pv 0)) (Ev.p (ρ:=[none,some (ti x)]) (by exact ai) pN) (bP _) (Fz (h1 hp))
 ·have hp:=afF hp;unfold af.sW;rw[rf hp];refine mZ mo (yg 0 U.cl pA.m pA.ok (br _) pA.b (Qy "owners" 'W') (λ_ _ _ e t=>t.mono e) ?_ ⟨x,hA,hx,rfl,rfl⟩ (λi=>pv 0)) (Ev.p (ai) pN) (bP _) (Fz (h2 hp));exact mG mo (Ev.p (ae 1 rfl) pN) rM
end
end
section
abbrev By:age:=top 22
theorem U6:aY ["order", "gone"] ["order", "gone"] (az By):=sk
def vt (order gone:LI):LI:=order.filter λx=>!gone.contains x
def Oh:bG:=λdd t=>∃(order gone:LI) (x:Int) (r:LI),order.length<=100/\vt order gone=x::r/\dd=[dis order,dis gone]/\t=ti x
theorem Vv {α:Type}(l:List α)(d : α)(p : α->Bool):(((List.range l.length).filter λk=>p ((l[k]?).getD d)).map λk=>(l[k]?).getD d)=l.filter p:=by
 have h:((List.range l.length).map λk=>(l[k]?).getD d)=l:=by
  have:=Ja l d id
  simp_all
 conv=>rhs;rw[<- h]
 rw[afs]
 rfl
theorem U7 (F:bN K "first_left" By f fd)(T:Txt mg):bM P w K mg base k f fd ["order", "gone"] Oh:=by
 refine bR F.d U6 'H' λdd t h=>?_
 obtain⟨order,gone,x,r,h1,h2,rfl,rfl⟩:_:=h;have big:=cw;refine ay (cu (Ev.s (bj (xs:=(vt order gone).map di) (zr (own:=["one"]) (fr:=[1]) (λi=>cv) (cy (ae 0 rfl) rfl) (bu 0 (λ_=>bT)) 'Q' (λk=>!gone.contains ((order[k]?).getD 0)) (λk=>ti ((order[k]?).getD 0)) ?_ (λk d hd=>?_) (λdd=>?_)) ai ?_ ?_)))
 ·grind
 ·obtain⟨y,hy,rfl⟩:_:=gn hd;refine⟨_,rfl,?_,λ_=>?_⟩
  ·rw[hy];exact jj (nU (ae 0 rfl) (ae 1 rfl) rfl (by with_unfolding_all rfl))
  ·rw[hy];exact ae 0 rfl
 ·cases dd<;>rfl
 ·rw[pJ,aa,Vv order 0 λx=>!gone.contains x]
  rfl
 ·rw[h2];exact dh rfl
theorem sf {F:aS ι}(h:a8 F Φ e t)(s:aj G H)(f : Φ G σ)(k:∀v G' H',Step G H G' H'->Hv F.K G' (er t) v->Q v H'):uE F e σ H Q:=by obtain⟨τ,p,q⟩:=h.use;exact⟨τ,p,q σ G H Q s f k⟩
theorem vv {F:aS ι}(h:Ev F e ρ t)(s:aj G H)(f:aX F.K G ρ σ)(k:∀v G' H',Step G H G' H'->Hv F.K G' (er t) v->Q v H'):uE F e σ H Q:=by obtain⟨τ,p,q⟩:=h.use;exact⟨τ,p,q σ G H Q s f k⟩
theorem Py {F:aS ι}(h:Et F e ρ b)(s:aj G H)(f:aX F.K G ρ σ)(k:∀G' H',Step G H G' H'->Q b H'):uT F e σ H Q:=by obtain⟨τ,p,q⟩:=h;exact⟨τ,p,q σ G H Q s f k⟩
theorem nS (s:aj G H)(h:aj H H1):Step G H G H1:=⟨aj.refl _,h,s.trans h,λa h h'=>absurd h h'⟩
theorem Oi (h1:H r=none)(h2:H q=none)(g1:G r=none)(g2:G q=none)(ne:q≠r):Nw H G [r,q]:=by
 refine⟨λa ha=>?_,λa ha=>?_,by grind⟩
 ·grind
 ·grind
abbrev k7 (K:Frag)(C:adV)(st:Ms)(ρ:En):Hp->St->Prop:=λG σ => gW K C st 0 G σ/\aX K G ρ σ
section
theorem sL:Mo (k7 K C st ρ):=λG G' σ e z9=>by obtain⟨⟨m,h1,h2⟩,r⟩:=z9;exact⟨⟨m,h1,h2.mono e⟩,r.mono e⟩
theorem acv (G:Hp)(σ:St)(h:k7 K C st ρ G σ):∃m dx fs v,σ[0]?=some (some (.ref m))/\G m=some (.ins C dx fs)/\fs.lookup ("orders":Str)=some v/\Hv K G (orM st) v:=by
 obtain⟨⟨m,h1,dx,v1,v2,v3,v4,v5,h0,h2,_⟩,_⟩:_:=h;exact⟨m,dx,_,v1,h1,h0,rfl,h2⟩
theorem FA (m:Str)(hm:[("orders":Str), "owned", "spare", "got", "wanted"].contains m=false)(G:Hp)(σ:St)(h:k7 K C st ρ G σ):∃a dx fs,σ[0]?=some (some (.ref a))/\G a=some (.ins C dx fs)/\fs.lookup m=none/\Th K C st G a:=by
 obtain⟨⟨a,h1,h⟩,_⟩:_:=h;obtain⟨dx,v1,v2,v3,v4,v5,h0,_⟩:_:=id h;refine⟨a,dx,_,h1,h0,?_,h⟩;simp only[afH,afj]at hm;simp[LG,hm]
theorem pV (G:Hp)(σ:St)(h:k7 K C st ρ G σ):aX K G ρ σ:=h.2
end
def lV (A:Nat)(O:Nat->List Nat)(s:af.St):Nat->List Nat->Nat->List Nat×Nat
 |0,P,x=>(P,x)
 |f+1,P,x=>if x∈P then (P,x)else lV A O s f (P++[x]) (af.nx A O s x)
def nr (st:Ms):List Nat×Nat:=lV st.A st.O st.s (st.A+1) [] ((af.cW st.A st.s).headD 0)
def bE (st:Ms):List Nat:=(nr st).1.drop ((nr st).1.idxOf (nr st).2)
abbrev jw (st:Ms)(c:Nat):Dv:=.tup [di c,di (af.best st.A st.O st.s c),di (af.nx st.A st.O st.s c)]
theorem Ey:∀{ds:List Dv} {vs:List V},ds.length=vs.length->(∀(j:Nat) d v,ds[j]?=some d->vs[j]?=some v->Hv K G d v)->aH K G ds vs
 |[],[] => λ_ _=>rfl
 |_::_,[] => λh _=>nomatch h
 |[],_::_=>λh _=>nomatch h
 |d::ds,v::vs=>λh k=>⟨v,vs,rfl,k 0 d v rfl rfl,Ey (Nat.succ.inj h) λj d v h1 h2=>k (j+1) d v h1 h2⟩
def Rw (st:Ms)(H G:Hp)(P:List Nat)(rv:List V):Prop:=∃ps:List adV,rv=ps.map V.ref/\ps.length=P.length/\∀(j:Nat) p,ps[j]?=some p->H p=none/\∃c,P[j]?=some c/\G p=some (.tup [.int (c:Int),.int ((af.best st.A st.O st.s c:Nat):Int),.int ((af.nx st.A st.O st.s c:Nat):Int)])
section
theorem Rw.nil:Rw st H G [] []:=⟨[],rfl,rfl,λj p h=>by cases h⟩
theorem Rw.mono (h:Rw st H G P rv)(e:aj G G'):Rw st H G' P rv:=by obtain⟨ps,h1,h2,h3⟩:_:=h;exact⟨ps,h1,h2,λj p hj=>by obtain⟨a,c,b,d⟩:_:=h3 j p hj;exact⟨a,c,b,e _ _ d⟩⟩
theorem Rw.HU (h:Rw st H G P rv):aH K G (P.map (jw st)) rv:=by
 obtain⟨ps,rfl,h2,h3⟩:=h;refine Ey 'J' λj d v hd hv=>?_
 rw[l8]at hv hd;cases e:ps[j]? with
 |none=>rw[e]at hv;cases hv
 |some p=>
  rw[e]at hv;cases hv;obtain⟨_,c,h4,h5⟩:=h3 j p e;rw[h4]at hd;cases hd;exact⟨p,_,rfl,cS.of h5,_,_,rfl,⟨rfl,rfl⟩,_,_,rfl,⟨rfl,rfl⟩,_,_,rfl,⟨rfl,rfl⟩,rfl⟩
theorem Rw.snoc (h:Rw st H G P rv){x:Nat}{p:adV}(hp:H p=none)(hg:G p=some (.tup [.int (x:Int),.int ((af.best st.A st.O st.s x:Nat):Int),.int ((af.nx st.A st.O st.s x:Nat):Int)])):Rw st H G (P++[x]) (rv++[.ref p]):=by
 obtain⟨ps,rfl,h2,h3⟩:=h;refine⟨ps++[p],by rw[BN];rfl,by rw[xw,xw,h2];rfl,λj q hq=>?_⟩;obtain l|l:=EM j ps.length
 ·rw[Cf l]at hq;rw[Cf 'O'];exact h3 j q hq
 ·rw[wb l]at hq;rw[wb 'O',<- h2];cases e:j-ps.length with
  |zero=>
   rw[e]at hq;cases hq;exact⟨hp,x,rfl,hg⟩
  |succ n=>rw[e]at hq;cases hq
theorem Rw.drop (h:Rw st H G P rv)(n:Nat):Rw st H G (P.drop n) (rv.drop n):=by
 obtain⟨ps,rfl,h2,h3⟩:=h;refine⟨ps.drop n,by rw[af0],by rw[aec,aec,h2],λj q hq=>?_⟩;rw[aek]at hq;rw[aek];exact h3 _ q hq
end
def Go (st:Ms):Prop:=st.A<=6/\st.M<=7/\af.Ok st.A st.O st.M/\∃B cnt sh G n,af.Iv st.A st.O st.s st.M B cnt sh [] G/\n<st.M/\cnt n=(st.A:Int)
theorem oi {P:List Nat}(nd:P.Nodup)(h:∀c∈P,c<A):P.length<=A:=by
 have:=B8 (n:=A) (l:=iN P) (by
  grind) λx hx=>by
   grind
 simp_all
abbrev RV:List Str:=["self", "gone", "rows", "passed", "asker", "one"]
abbrev y9:age:=nQ 5
theorem pG:aY RV ["self"] (az y9):=sk
def Pz (K:Frag)(C:adV):Sp:=λvs H Q _=>∃(G:Hp) (m:adV) (st:Ms),vs=[.ref m]/\aj G H/\Th K C st G m/\Go st/\af.cW st.A st.s≠[]/\∀G' H' l rv,Step G H G' H'->H l=none->G' l=some (.lst rv)->Rw st H G' (bE st) rv->Q (.ref l) H'
theorem acw {x:Nat}:(iN l).contains (x:Int)=l.contains x:=by
 grind
theorem abB {x:Nat}:(iN l).idxOf (x:Int)=l.idxOf x:=by
 induction l with
 |nil=>rfl
 |cons a l ih=>
  grind
theorem Xu {st:Ms}(hx:x<st.M):(iN ((List.range st.M).filter (af.cB st.A st.s))).contains (x:Int)=af.cB st.A st.s x:=by
 grind
theorem Xv (g:Go st)(ha:a<st.A)(hw : 0<st.s.wn a):∃r,vt (iN (st.O a)) (iN ((List.range st.M).filter (af.cB st.A st.s)))=((af.best st.A st.O st.s a:Nat):Int)::r:=by
 obtain⟨hA,hM,ok,B,cnt,sh,G,n,iv,hn,hc⟩:_:=g;obtain⟨b1,b2,_,_⟩:=af.rZ ok iv hn hc ha hw;have e:vt (iN (st.O a)) (iN ((List.range st.M).filter (af.cB st.A st.s)))=iN ((st.O a).filter λx=>!af.cB st.A st.s x):=by
  unfold vt iN;rw[afs];congr 1;refine afU λx hx=>?_
  have hx:=l9.mp ((ok a ha).mem_iff.mp hx);show(!(iN ((List.range st.M).filter (af.cB st.A st.s))).contains (x))=_;rw[Xu hx]
 rw[e];cases h:(st.O a).filter λx=>!af.cB st.A st.s x with
 |nil=>
  exfalso;have:n∈(st.O a).filter λx=>!af.cB st.A st.s x:=B0.mpr ⟨(ok a ha).mem_iff.mpr (l9.mpr hn),by rw[af.JN iv hn hc ha hw];rfl⟩
  rw[h]at this;cases this
 |cons b r=>
  refine⟨iN r,?_⟩;unfold af.best;rw[h];rfl
theorem aan (h:a<A)(h2 : 0<s.own a x)(z:af.owners A s x=[]):False:=by
 have:a∈af.owners A s x:=B0.mpr ⟨l9.mpr h,EO h2⟩
 simp_all
abbrev rh (P:agc)(w:agd)(K:Frag)(mg:Str->Option vn)(base:Heap)(f:adV)(k:Nat):=jv P w K mg base RV "Market.ring" (az y9) f k
theorem CV (h1:Hv K G d1 gv)(h2:Hv K G d2 rv)(h3:Hv K G d3 qv):aX K G [none,some (.fz d1),some (.fz d2),some (.fz d3),some (ti x),none] [o0,some gv,some rv,some qv,some (.int x),o5]:=λj d hj=>by
 match j,hj with
 |0,hj=>cases hj
 |1,hj=>cases hj;exact⟨gv,rfl,h1⟩
 |2,hj=>cases hj;exact⟨rv,rfl,h2⟩
 |3,hj=>cases hj;exact⟨qv,rfl,h3⟩
 |4,hj=>cases hj;exact⟨_,rfl,rfl,rfl⟩
 |5,hj=>cases hj
 |n+6,hj=>cases hj
theorem aao (F:fE K "ring" "Market.ring" y9 .none f fd)(T:Txt mg)(U:k6 K C)(Ez:Km P w K mg base C "gone" j1 fg fdg ["self"] (gg K (Th K C) Qv))(j7:Km P w K mg base C "wanting" j2 fw RU ["self"] (gg K (Th K C) zW))(DC:Km P w K mg base C "giver" j3 fv fdv ["self", "one"] (gg K (Th K C) Qx))(Vw:Kn P w K mg base bx j4 "first_left" fl RW ["order", "gone"] (spT K Oh))(l1:j1<=k)(l2:j2<=k)(l3:j3<=k)(l4:j4<=k):bS P w K mg base bx (k+1) f fd ["self"] (Pz K C):=by
 refine F.ok pG (λvs H Q E z9=>by obtain⟨_,_,_,h1,_⟩:=z9;rw[h1];rfl) λaN A outer s H vs Q E hr h=>?_
 obtain⟨G,m,st,rfl,sm,hT,go,hw,kv⟩:_:=h;have big:=cw;obtain⟨hA,hM,ok,B,cnt,sh,Gn,n,iv,hn,hc⟩:_:=id go;refine⟨_,dr (iq (i:=1) pG.nd rfl (Or.inl rfl) (dR (F:=rh P w K mg base f k) ⟨aN,A,outer,s,H,E,hr⟩))
  (dr (iq (i:=2) pG.nd rfl (Or.inl rfl) (DL cR))
  (dr (iq (i:=3) pG.nd rfl (Or.inl rfl) (DL cR))
  (dr (iq (i:=4) pG.nd rfl (Or.inl rfl) (dR (F:=rh P w K mg base f k) ⟨aN,A,outer,s,H,E,hr⟩))
  (dr (Cv aeL (vi (F:=rh P w K mg base f k) ⟨aN,A,outer,s,H,E,hr⟩) (dr (iq (i:=5) pG.nd rfl (Or.inl rfl) (dR (F:=rh P w K mg base f k) ⟨aN,A,outer,s,H,E,hr⟩))
   (dr (lr (lF GG YA YE oY (pv 3) (cm (pv 4) cR)))
   (dr (lr (lF GG YA YE oY (pv 2) (cm (DK (cm (pv 4) (cm (pv 5) (cm (dR (F:=rh P w K mg base f k) ⟨aN,A,outer,s,H,E,hr⟩) cR)))) cR)))
   (gG (iq (i:=4) pG.nd rfl (Or.inl rfl) (dR (F:=rh P w K mg base f k) ⟨aN,A,outer,s,H,E,hr⟩)))))))
  (gG (kl (JU KW (pv 2) (KS (dR (F:=rh P w K mg base f k) ⟨aN,A,outer,s,H,E,hr⟩)) KR))))))),?_⟩
 show eQ (lM (uE _ _) _) _ _ [some (.ref m),none,none,none,none,none] H;refine sf (Φ:=k7 K C st [none,none,none,none,none,none]) (xV (C:=C) (st:=st) 0 U.cl Ez.m Ez.ok l1 Ez.b (FA "gone" 'W') ⟨hA,hM,rfl,rfl⟩ (λi=>pv 0)) sm ⟨⟨m,rfl,hT⟩,λj d hj=>by
  match j,hj with
  |0,hj=>cases hj
  |1,hj=>cases hj
  |2,hj=>cases hj
  |3,hj=>cases hj
  |4,hj=>cases hj
  |5,hj=>cases hj
  |n+6,hj=>cases hj⟩ λgv G1 H1 s1 hg=>?_
 rw[bP]at hg;dsimp only[eJ,eQ,List.set];refine⟨by show 0<=sizeLine;exact AM _,λr xn=>?_⟩;dsimp only[eJ,eQ,List.set];refine⟨by show 0<=sizeLine;exact AM _,λq tV=>?_⟩;dsimp only[eJ,eQ,List.set];have rq:q≠r:=λz=>by
  rw[z,bQ]at tV;cases tV
 have gV:H1 q=none:=by rwa [aQ rq]at tV
 have s3:Step G H G1 (upd (upd H1 r (.lst [])) q (.lst [])):=⟨s1.g,(s1.h.trans (aj.new xn)).trans (aj.new tV),(s1.s.trans (aj.new xn)).trans (aj.new tV),s1.n⟩
 have r1:G1 r=none:=s1.s.free xn;have q1:G1 q=none:=s1.s.free gV;have rH:H r=none:=s1.h.free xn;have qH:H q=none:=s1.h.free gV;have rr:upd (upd H1 r (.lst [])) q (.lst []) r=some (.lst []):=by rw[aQ rq.symm,bQ]
 generalize tE:upd (upd H1 r (.lst [])) q (.lst [])=H3 at s3 rr;have qq:H3 q=some (.lst []):=by rw[<- tE];exact bQ
 have HA:=hT.mono s1.g;clear tE tV xn;refine sf (Φ:=k7 K C st [none,none,none,none,none,none]) (mZ (d:=di (((af.cW st.A st.s).headD 0:Nat):Int)) sL (xV (C:=C) (st:=st) 0 U.cl j7.m j7.ok l2 j7.b (FA "wanting" 'W') ⟨hA,rfl,rfl⟩ (λi=>pv 0)) (Ev.p (ρ:=[none,none,none,none,none,none]) (by exact ai) pV) (bP _) (Fz hw)) s3.s ⟨⟨m,rfl,HA⟩,λj d hj=>by
  match j,hj with
  |0,hj=>cases hj
  |1,hj=>cases hj
  |2,hj=>cases hj
  |3,hj=>cases hj
  |4,hj=>cases hj
  |5,hj=>cases hj
  |n+6,hj=>cases hj⟩ λxv G4 H4 s4 hx=>?_
 obtain rfl:xv=.int (((af.cW st.A st.s).headD 0:Nat):Int):=aO hx;dsimp only[eJ,eQ,List.set];have off:∀{Ga Ha Gb Hb:Hp} {a:adV} {o:HO},Step Ga Ha Gb Hb->Ga a=none->Ha a=some o->Gb a=none:=λ{Ga Ha Gb Hb a o} e h1 h2=>by
  cases z:Gb a with
  |none=>rfl
  |some u=>
   have:=e.n a h1 (by rw[z];simp);rw[h2]at this;cases this
 have x0:(af.cW st.A st.s).headD 0<st.A/\0<st.s.wn ((af.cW st.A st.s).headD 0):=by
  cases e:af.cW st.A st.s with
  |nil=>exact absurd e hw
  |cons c l=>
   have:c∈af.cW st.A st.s:=by rw[e];exact .head _
   obtain⟨h1,h2⟩:=B0.mp this;exact⟨l9.mp h1,GS h2⟩
 have hgl:∀{P:List Nat} {x:Nat},af.Pt st.A st.O st.s P x->P.length<=st.A:=λ{P x} pt=>oi pt.nd λc hc=>(pt.rg c hc).1
 refine⟨λmm σ Hc=>∃Gc P x rv o5,mm=7-P.length/\σ=[some (.ref m),some gv,some (.ref r),some (.ref q),some (.int ((x:Nat):Int)),o5]/\Step G H Gc Hc/\Hv K Gc (dis (iN ((List.range st.M).filter (af.cB st.A st.s)))) gv/\Th K C st Gc m/\Gc r=none/\Gc q=none/\Hc r=some (.lst rv)/\Hc q=some (.lst ((iN P).map V.int))/\Rw st H Gc P rv/\af.Pt st.A st.O st.s P x/\lV st.A st.O st.s (st.A+1-P.length) P x=nr st,⟨_,G4,[],_,[],none,rfl,rfl,s3.trans s4,hg.mono s4.g,HA.mono s4.g,off s4 r1 rr,off s4 q1 qq,s4.h _ _ rr,s4.h _ _ qq,.nil,⟨.nil,(λc hc=>nomatch hc),x0,λi c hi=>by cases hi⟩,rfl⟩,?_⟩;intro mm σ Hc z9;obtain⟨Gc,P,x,rv,o5,rfl,rfl,sc,xq,HV,cr,cq,wW,gV,HW,pt,RX⟩:_:=z9;have HX:aH K Gc (P.map (jw st)) rv:=HW.HU;have nw:Nw H Gc [r,q]:=Oi rH qH cr cq rq;have vw:∀{Hx:Hp},aj Gc (cD Gc Hx [r,q]):=fm nw.g;have vr:∀{Hx:Hp},Hx r=some (.lst rv)->Hv K (cD Gc Hx [r,q]) (.lst (P.map (jw st))) (.ref r):=λ{Hx} h=>⟨r,rv,rfl,aM.of (by rw[du (.head _)];exact h),HX.mono vw⟩
 have vq:∀{Hx:Hp},Hx q=some (.lst ((iN P).map V.int))->Hv K (cD Gc Hx [r,q]) (dis (iN P)) (.ref q):=λ{Hx} h=>⟨q,_,rfl,aM.of (by rw[du (.tail _ (.head _))];exact h),j9⟩
 refine Py (nU (ns:=iN P) (ae 4 rfl) (ae 3 rfl) rfl rfl) (gk sc.s) (CV (xq.mono vw) (vr wW) (vq gV)) λ_ H5 s5=>?_
 have sh5:Step Gc Hc Gc H5:=nS sc.s s5.h;have c5:=sc.trans sh5;have r5:=s5.h _ _ wW;have q5:=s5.h _ _ gV;rw[acw];by_cases hx:x∈P
 ·rw[MW.mpr hx];rw[rf 'Q'];dsimp only[eQ];have hl:=Nl.mpr hx;have ep:nr st=(P,x):=by
   rw[<- RX];cases st.A+1-P.length with
   |zero=>rfl
   |succ n=>unfold lV;rw[uu hx]
  refine⟨.ref r,rfl,vv (t:=ti ((P.idxOf x:Nat):Int)) (Ev.to (yf (ns:=iN P) (ae 3 rfl) rfl (ae 4 rfl) (i8.mpr ⟨x,hx,rfl⟩)) (by rw[abB])) (gk c5.s) (CV (xq.mono vw) (vr r5) (vq q5)) λv G6 H6 s6 hv6=>⟨_,aO hv6,r,rv,rfl,aM.of (s6.h _ _ r5),λl HY=>?_⟩⟩;have c6:=c5.trans (nS c5.s s6.h);have ec:sY rv (some ((P.idxOf x:Nat):Int)) none=rv.drop (P.idxOf x):=Ks rv _ (by rw[<- HX.length,aa];lia);rw[ec];have ss:aj Gc (upd Gc l (.lst (rv.drop (P.idxOf x)))):=aj.new (c6.s.free HY);refine kv _ _ l _ (c6.trans (.new c6.s HY)) (c6.h.free HY) bQ ?_;unfold bE;rw[ep];exact(HW.drop _).mono ss
 ·have hb:P.contains x=false:=by
   cases e:P.contains x with
   |false=>rfl
   |true=>exact absurd (MW.mp e) hx
  rw[hb,uu 'X'];have pn:=pt.next ok iv hn hc hx
  have hl:=hgl pn;rw[xw]at hl;have hl:P.length+1<=st.A:=hl;refine⟨λaD H'=>∃Gc rv o5,aD=[some (.ref m),some gv,some (.ref r),some (.ref q),some (.int ((af.nx st.A st.O st.s x:Nat):Int)),o5]/\Step G H Gc H'/\Hv K Gc (dis (iN ((List.range st.M).filter (af.cB st.A st.s)))) gv/\Th K C st Gc m/\Gc r=none/\Gc q=none/\H' r=some (.lst rv)/\H' q=some (.lst ((iN (P++[x])).map V.int))/\Rw st H Gc (P++[x]) rv,?_,?_⟩
  ·intro aD H' z9;obtain⟨Gd,rv',o5',e,h1,h2,h3,h4,h5,h6,h7,h8⟩:_:=z9;refine⟨7-(P++[x]).length,by rw[xw];show 7-(P.length+1)<_;lia,Gd,P++[x],_,rv',o5',rfl,e,h1,h2,h3,h4,h5,h6,h7,h8,pn,?_⟩;rw[<- RX,show st.A+1-P.length=(st.A+1-(P++[x]).length)+1 by rw[xw];show _=st.A+1-(P.length+1)+1;lia]
   conv=>rhs;unfold lV
   rw[rf hx]
  ·obtain⟨rr0,hbl⟩:=Xv go pt.xr.1 pt.xr.2;obtain⟨b1,b2,_,_⟩:=af.rZ ok iv hn hc pt.xr.1 pt.xr.2;have xo:=af.zE ok iv hn hc pt.xr.1 pt.xr.2;have rp0:aX K Gc [none,some (.fz (dis (iN ((List.range st.M).filter (af.cB st.A st.s))))),none,none,some (ti x),none] [some (.ref m),some gv,some (.ref r),some (.ref q),some (.int ((x:Nat):Int)),o5]:=λj d hj=>by
    match j,hj with
    |0,hj=>cases hj
    |1,hj=>cases hj;exact⟨gv,rfl,xq⟩
    |2,hj=>cases hj
    |3,hj=>cases hj
    |4,hj=>cases hj;exact⟨_,rfl,rfl,rfl⟩
    |5,hj=>cases hj
    |n+6,hj=>cases hj
   refine sf (Φ:=k7 K C st [none,some (.fz (dis (iN ((List.range st.M).filter (af.cB st.A st.s))))),none,none,some (ti x),none]) (t:=ti (af.best st.A st.O st.s x:Nat)) (Yr (dd:=[dis (iN (st.O x)),dis (iN ((List.range st.M).filter (af.cB st.A st.s)))]) Vw l4 (mG (t:=.fz (dis (iN (st.O x)))) sL (mZ (d:=dis (iN (st.O x))) sL (jK (C:=C) (d:=orM st) 0 U.cl U.n1 acv (λi=>pv 0)) (Ev.p (ae 4 rfl) pV) rfl (Px _ pt.xr.1)) (mG (t:=.fz (dis (iN ((List.range st.M).filter (af.cB st.A st.s))))) sL (Ev.p (ae 1 rfl) pV) rM)) ⟨_,_,_,rr0,by rw[aa,(ok x pt.xr.1).length_eq,vc];lia,hbl,rfl,rfl⟩) c5.s ⟨⟨m,rfl,HV⟩,rp0⟩ λov G6 H6 s6 ho=>?_
   obtain rfl:ov=.int ((af.best st.A st.O st.s x:Nat):Int):=aO ho;dsimp only[eJ,eQ,List.set];have r6:=s6.h _ _ r5;have q6:=s6.h _ _ q5;have g6r:=off s6 cr r5;have RY:=off s6 cq q5;refine⟨.ref q,rfl,.inl ⟨rfl,_,aM.of q6⟩,_,rfl,q,_,_,rfl,rfl,q6,by rw[aa,aa];lia,?_⟩;have q7:upd H6 q (.lst ((iN P).map V.int++[.int (x:Int)])) q=some (.lst ((iN (P++[x])).map V.int)):=by rw[bQ];unfold iN;rw[BN,BN];rfl
   have r7:upd H6 q (.lst ((iN P).map V.int++[.int (x:Int)])) r=some (.lst rv):=by rw[aQ rq.symm];exact r6
   have HZ:aj G6 (upd H6 q (.lst ((iN P).map V.int++[.int (x:Int)]))):=λb o hb=>by rw[aQ λz=>by rw[z,RY]at hb;cases hb];exact s6.s _ _ hb
   have c6:=c5.trans s6;have c7:Step G H G6 (upd H6 q (.lst ((iN P).map V.int++[.int (x:Int)]))):=⟨c6.g,λb o hb=>by rw[aQ λz=>by rw[z,qH]at hb;cases hb];exact c6.h _ _ hb,HZ,c6.n⟩
   generalize upd H6 q (.lst ((iN P).map V.int++[.int (x:Int)]))=H7 at q7 r7 HZ c7;refine⟨.ref r,rfl,.inl ⟨rfl,_,aM.of r7⟩,_,rfl,_,rfl,?_⟩;have rp1:aX K G6 [none,none,none,none,some (ti x),some (ti (af.best st.A st.O st.s x:Nat))] [some (.ref m),some gv,some (.ref r),some (.ref q),some (.int ((x:Nat):Int)),some (.int ((af.best st.A st.O st.s x:Nat):Int))]:=λj d hj=>by
    match j,hj with
    |0,hj=>cases hj
    |1,hj=>cases hj
    |2,hj=>cases hj
    |3,hj=>cases hj
    |4,hj=>cases hj;exact⟨_,rfl,rfl,rfl⟩
    |5,hj=>cases hj;exact⟨_,rfl,rfl,rfl⟩
    |n+6,hj=>cases hj
   refine sf (Φ:=k7 K C st [none,none,none,none,some (ti x),some (ti (af.best st.A st.O st.s x:Nat))]) (t:=ti (af.nx st.A st.O st.s x:Nat)) (yg (C:=C) (st:=st) (dd:=[di (af.best st.A st.O st.s x:Nat)]) 0 U.cl DC.m DC.ok l3 DC.b (FA "giver" 'W') (λ_ _ _ e t=>t.mono e) (mG sL (Ev.p (ae 5 rfl) pV) rM) ⟨_,hA,b1,(λ_=>hw),(λhs z=>aan xo.1 (xo.2.2 hs) z),rfl,rfl⟩ (λi=>pv 0)) HZ ⟨⟨m,rfl,HV.mono s6.g⟩,rp1⟩ λnv G8 H8 s8 hn8=>?_
   obtain rfl:nv=.int ((af.nx st.A st.O st.s x:Nat):Int):=aO hn8;refine⟨by show 3<=sizeLine;lia,λp hp=>?_⟩;have g8r:=off s8 g6r r7;have g8q:=off s8 RY q7;have r8:=s8.h _ _ r7;have q8:=s8.h _ _ q7;have np:r≠p:=λz=>by rw[<- z,r8]at hp;cases hp
   have nq:q≠p:=λz=>by rw[<- z,q8]at hp;cases hp
   refine⟨r,rv,_,rfl,rfl,by rw[aQ np];exact r8,by rw[<- HX.length,aa];lia,?_⟩;have c8:=c7.trans s8;have e8:Step G H (upd G8 p (.tup [.int (x:Int),.int ((af.best st.A st.O st.s x:Nat):Int),.int ((af.nx st.A st.O st.s x:Nat):Int)])) (upd H8 p (.tup [.int (x:Int),.int ((af.best st.A st.O st.s x:Nat):Int),.int ((af.nx st.A st.O st.s x:Nat):Int)])):=c8.trans (.new s8.s hp);have ss:aj G8 (upd G8 p (.tup [.int (x:Int),.int ((af.best st.A st.O st.s x:Nat):Int),.int ((af.nx st.A st.O st.s x:Nat):Int)])):=aj.new (s8.s.free hp);have gp:upd G8 p (.tup [.int (x:Int),.int ((af.best st.A st.O st.s x:Nat):Int),.int ((af.nx st.A st.O st.s x:Nat):Int)]) p=some (.tup [.int (x:Int),.int ((af.best st.A st.O st.s x:Nat):Int),.int ((af.nx st.A st.O st.s x:Nat):Int)]):=bQ;have Ia:upd G8 p (.tup [.int (x:Int),.int ((af.best st.A st.O st.s x:Nat):Int),.int ((af.nx st.A st.O st.s x:Nat):Int)]) r=none:=by rw[aQ np];exact g8r
   have RZ:upd G8 p (.tup [.int (x:Int),.int ((af.best st.A st.O st.s x:Nat):Int),.int ((af.nx st.A st.O st.s x:Nat):Int)]) q=none:=by rw[aQ nq];exact g8q
   have q9:upd (upd H8 p (.tup [.int (x:Int),.int ((af.best st.A st.O st.s x:Nat):Int),.int ((af.nx st.A st.O st.s x:Nat):Int)])) r (.lst (rv++[.ref p])) q=some (.lst ((iN (P++[x])).map V.int)):=by rw[aQ rq,aQ nq];exact q8
   have r9:upd (upd H8 p (.tup [.int (x:Int),.int ((af.best st.A st.O st.s x:Nat):Int),.int ((af.nx st.A st.O st.s x:Nat):Int)])) r (.lst (rv++[.ref p])) r=some (.lst (rv++[.ref p])):=bQ;have gs:=s6.g.trans (s8.g.trans ss);generalize upd G8 p (.tup [.int (x:Int),.int ((af.best st.A st.O st.s x:Nat):Int),.int ((af.nx st.A st.O st.s x:Nat):Int)])=G9 at *;have c9:Step G H G9 (upd (upd H8 p (.tup [.int (x:Int),.int ((af.best st.A st.O st.s x:Nat):Int),.int ((af.nx st.A st.O st.s x:Nat):Int)])) r (.lst (rv++[.ref p]))):=⟨e8.g,λb o hb=>by rw[aQ λz=>by rw[z,rH]at hb;cases hb];exact e8.h _ _ hb,λb o hb=>by rw[aQ λz=>by rw[z,Ia]at hb;cases hb];exact e8.s _ _ hb,e8.n⟩
   generalize upd (upd H8 p (.tup [.int (x:Int),.int ((af.best st.A st.O st.s x:Nat):Int),.int ((af.nx st.A st.O st.s x:Nat):Int)])) r (.lst (rv++[.ref p]))=H9 at *;have Qz:Rw st H G9 (P++[x]) (rv++[.ref p]):=(HW.mono gs).snoc (c8.h.free hp) gp;have ado:aH K G9 ((P++[x]).map (jw st)) (rv++[.ref p]):=Qz.HU;have R0:aj G9 (cD G9 H9 [r,q]):=fm (Oi rH qH Ia RZ rq).g;have at9:aF ((P++[x]).map (jw st)) (-1)=some (jw st x):=by rw[BN];exact yB _ _
   have vr9:Hv K (cD G9 H9 [r,q]) (.lst ((P++[x]).map (jw st))) (.ref r):=⟨r,_,rfl,aM.of (by rw[du (.head _)];exact r9),ado.mono R0⟩
   have vq9:Hv K (cD G9 H9 [r,q]) (dis (iN (P++[x]))) (.ref q):=⟨q,_,rfl,aM.of (by rw[du (.tail _ (.head _))];exact q9),j9⟩
   refine vv (t:=ti (af.nx st.A st.O st.s x:Nat)) (bF (bj (d:=jw st x) (ae 2 rfl) (mX ai) rfl at9) ai rfl (dh (j:=2) rfl)) (gk c9.s) (CV (o0:=some (.ref m)) (x:=x) (o5:=some (.int ((af.best st.A st.O st.s x:Nat):Int))) ((xq.mono gs).mono R0) vr9 vq9) λav Ib nI jC ha=>?_
   obtain rfl:av=.int ((af.nx st.A st.O st.s x:Nat):Int):=aO ha;exact⟨G9,_,_,rfl,c9.trans (nS c9.s jC.h),xq.mono gs,HV.mono gs,Ia,RZ,jC.h _ _ r9,jC.h _ _ q9,Qz⟩
end
section
theorem Md {F:aS ι}(h:iO F Φ e b)(s:aj G H)(f : Φ G σ)(k:∀G' H',Step G H G' H'->Q b H'):uT F e σ H Q:=by obtain⟨τ,p,q⟩:=h;exact⟨τ,p,q σ G H Q s f k⟩
section
abbrev yk:age:=nQ 6
theorem Xw:aY ["self", "one", "giver"] ["self", "one", "giver"] (az yk):=sk
def FC (K:Frag)(C:adV):Sp:=λvs H Q _=>∃(G:Hp) (m:adV) (x g:Nat) (st:Ms) (v:V),vs=[.ref m,.int (x:Int),.int (g:Int)]/\aj G H/\Th K C st G m/\x<st.M /\
 (∃dx v1 l2 us v3 v4 v5,G m=some (.ins C dx [("orders",v1),("owned",.ref l2),("spare",v3),("got",v4),("wanted",v5)])/\aM K G l2 us/\(0<st.s.sp x->v=v3)/\(¬0<st.s.sp x->us[g]?=some v))/\∀H',aj H H'->Q v H'
abbrev FSo (P:agc)(w:agd)(K:Frag)(mg:Str->Option vn)(base:Heap)(f:adV)(k:Nat):=jv P w K mg base ["self", "one", "giver"] "Market.source" (az yk) f k
theorem Xx (F:fE K "source" "Market.source" yk .none f fd)(U:k6 K C):bS P w K mg base bx (k+1) f fd ["self", "one", "giver"] (FC K C):=by
 refine F.ok Xw (λvs H Q E z9=>by obtain⟨_,_,_,_,_,_,h1,_⟩:_:=z9;simp_all) λaN A outer s H vs Q E hr h=>?_
 obtain⟨G,m,x,g,st,v,rfl,sm,hT,hx,⟨dx,v1,l2,us,v3,v4,v5,h0,hu,c1,c2⟩,kv⟩:_:=h;refine⟨_,gG (kl (Cu (vi (F:=FSo P w K mg base f k) ⟨aN,A,outer,s,H,E,hr⟩) (mV (pv 0) rfl) (ku mJ (mV (pv 0) rfl) (pv 2) (λ_ _=>rfl)))),?_⟩;have mo:Mo (jI K C st ["self", "one", "giver"] [di x,di g]):=Eu;have rp:∀G σ,jI K C st ["self", "one", "giver"] [di x,di g] G σ->aX K G [none,some (ti x)] σ:=λG σ z9=>by
  obtain⟨a,rest,e,_,hv⟩:_:=z9;obtain⟨y,z,rfl,h1,_⟩:_:=p8 hv;rw[e];exact Mb h1
 refine Md (Φ:=jI K C st ["self", "one", "giver"] [di x,di g]) (NR mo (mZ mo (jK 0 U.cl U.n3 vQ (λi=>pv 0)) (Ev.p (ae 1 rfl) rp) rfl (sX _ hx)) (Ev.p (ai) rp)) sm ⟨m,_,rfl,hT,_,_,rfl,⟨rfl,rfl⟩,_,_,rfl,⟨rfl,rfl⟩,rfl⟩ λG1 H1 s1=>?_
 by_cases hp : 0<st.s.sp x
 ·rw[uu (EO hp)];exact⟨_,rfl,m,C,dx,_,v3,rfl,s1.h _ _ (sm _ _ h0),U.cl,U.n3,rfl,c1 hp▸kv H1 s1.h⟩
 ·rw[rf 'J'];exact⟨_,rfl,m,C,dx,_,.ref l2,rfl,s1.h _ _ (sm _ _ h0),U.cl,U.n2,rfl,_,rfl,l2,us,g,v,rfl,rfl,(sm.trans s1.h).seq hu,dh (c2 hp),kv H1 s1.h⟩
def gP (st:Ms)(x g:Nat):Nat->Int:=if 0<st.s.sp x then st.s.sp else st.s.own g
def adp (st:Ms)  : bG:=λdd t=>∃x g:Nat,x<st.M/\(¬0<st.s.sp x->g<st.A)/\dd=[di x,di g]/\t=.fz (dis (bC st.M (gP st x g)))
theorem acx (F:bS P w K mg base bx k f fd ["self", "one", "giver"] (FC K C)):bS P w K mg base bx k f fd ["self", "one", "giver"] (gg K (Th K C) adp):=F.imp λvs H Q E z9=>by
 obtain⟨G,a,rest,st,dd,t,h1,s,hT,hv,hR,kv⟩:_:=z9;obtain⟨x,g,hx,hg,rfl,rfl⟩:_:=hR;obtain⟨y,z,rfl,hy,hz⟩:_:=p8 hv;obtain rfl:=aO hy;obtain rfl:=aO hz;obtain⟨dx,v1,v2,v3,v4,v5,h0,t1,⟨l2,us,rfl,q1,q2⟩,t3,t4,t5⟩:_:=id hT;by_cases hp : 0<st.s.sp x
 ·refine⟨G,a,x,g,st,v3,h1,s,hT,hx,⟨dx,v1,l2,us,v3,v4,v5,h0,q1,λ_=>rfl,λz=>absurd hp z⟩,λH' sh=>?_⟩;refine kv v3 G H' [] ⟨aj.refl _,sh,s.trans sh,λ_ h h'=>absurd h h'⟩ ⟨rfl,?_⟩ .nil;unfold gP;rw[uu hp];exact t3
 ·obtain⟨u,u1,u2⟩:=q2.get (by rw[l8,IF (hg hp)];rfl);refine⟨G,a,x,g,st,u,h1,s,hT,hx,⟨dx,v1,l2,us,v3,v4,v5,h0,q1,λz=>absurd z hp,λ_=>u1⟩,λH' sh=>?_⟩;refine kv u G H' [] ⟨aj.refl _,sh,s.trans sh,λ_ h h'=>absurd h h'⟩ ⟨rfl,?_⟩ .nil;unfold gP;rw[rf hp];exact u2
end
abbrev mF (m o2 l3 o4 l5:adV)(r2 r4:List adV):List adV:=m::o2::l3::o4::l5::(r2++r4)
abbrev cU (m:Nat)(f:Nat->Int):HO:=.lst ((bC m f).map V.int)
structure Mv (K:Frag) (C:adV) (st:Ms) (G H:Hp) (m dx:adV) (v1:V) (o2 l3 o4 l5:adV) (r2 r4:List adV):Prop where
 i:H m=some (.ins C dx [("orders",v1),("owned",.ref o2),("spare",.ref l3),("got",.ref o4),("wanted",.ref l5)])
 h1:Hv K G (orM st) v1
 h2:H o2=some (.lst (r2.map V.ref))
 n2:r2.length=st.A
 e2:∀i a,r2[i]?=some a->H a=some (cU st.M (st.s.own i))
 h3:H l3=some (cU st.M st.s.sp)
 h4:H o4=some (.lst (r4.map V.ref))
 n4:r4.length=st.A
 e4:∀i a,r4[i]?=some a->H a=some (cU st.M (st.s.got i))
 h5:H l5=some (cU st.A st.s.wn)
 nd:(mF m o2 l3 o4 l5 r2 r4).Nodup
 g:∀a∈mF m o2 l3 o4 l5 r2 r4,G a=none
theorem DE {r:List adV}(h:G o=some (.lst (r.map V.ref)))(n:r.length=A)(e:∀i a,r[i]?=some a->G a=some (cU M (f i))):Hv K G (kZ A M f) (.ref o):=by
 refine⟨o,_,rfl,aM.of h,Ey 'J' λj d v h1 h2=>?_⟩;obtain⟨_,rfl⟩:=yZ h1;rw[l8]at h2;cases q:r[j]? with
 |none=>rw[q]at h2;cases h2
 |some a=>
  rw[q]at h2;cases h2;exact⟨a,_,rfl,aM.of (e j a q),j9⟩
section
variable {l3:adV}
theorem Mv.m1:m∈mF m o2 l3 o4 l5 r2 r4:=.head _
theorem Mv.m2:o2∈mF m o2 l3 o4 l5 r2 r4:=.tail _ (.head _)
theorem Mv.m3:l3∈mF m o2 l3 o4 l5 r2 r4:=.tail _ (.tail _ (.head _))
theorem Mv.m4:o4∈mF m o2 l3 o4 l5 r2 r4:=.tail _ (.tail _ (.tail _ (.head _)))
theorem Mv.m5:l5∈mF m o2 l3 o4 l5 r2 r4:=.tail _ (.tail _ (.tail _ (.tail _ (.head _))))
theorem Mv.mr {i:Nat}(h:r2[i]?=some a):a∈mF m o2 l3 o4 l5 r2 r4:=.tail _ (.tail _ (.tail _ (.tail _ (.tail _ (xy _ (ba h))))))
theorem Mv.mt {i:Nat}(h:r4[i]?=some a):a∈mF m o2 l3 o4 l5 r2 r4:=.tail _ (.tail _ (.tail _ (.tail _ (.tail _ (l7 _ (ba h))))))
theorem Mv.there (h:Mv K C st G H m dx v1 o2 l3 o4 l5 r2 r4):∀a∈mF m o2 l3 o4 l5 r2 r4,∃o,H a=some o:=λa ha=>by
 obtain z|ha:=ff.mp ha
 ·exact⟨_,z▸h.i⟩
 obtain z|ha:=ff.mp ha
 ·exact⟨_,z▸h.h2⟩
 obtain z|ha:=ff.mp ha
 ·exact⟨_,z▸h.h3⟩
 obtain z|ha:=ff.mp ha
 ·exact⟨_,z▸h.h4⟩
 obtain z|ha:=ff.mp ha
 ·exact⟨_,z▸h.h5⟩
 obtain z|z:=qr.mp ha
 ·obtain⟨i,hi⟩:=YI z;exact⟨_,h.e2 i a hi⟩
 ·obtain⟨i,hi⟩:=YI z;exact⟨_,h.e4 i a hi⟩
theorem Mv.th (h:Mv K C st G H m dx v1 o2 l3 o4 l5 r2 r4):Th K C st (cD G H (mF m o2 l3 o4 l5 r2 r4)) m:=
 ⟨dx,v1,.ref o2,.ref l3,.ref o4,.ref l5,by rw[du Mv.m1];exact h.i,h.h1.mono (fm h.g),DE (by rw[du Mv.m2];exact h.h2) h.n2 λi a e=>by rw[du (Mv.mr e)];exact h.e2 i a e,⟨l3,_,rfl,aM.of (by rw[du Mv.m3];exact h.h3),j9⟩,DE (by rw[du Mv.m4];exact h.h4) h.n4 λi a e=>by rw[du (Mv.mt e)];exact h.e4 i a e,⟨l5,_,rfl,aM.of (by rw[du Mv.m5];exact h.h5),j9⟩⟩
theorem Mv.mono (h:Mv K C st G H m dx v1 o2 l3 o4 l5 r2 r4)(g:aj G G')(hg:∀a∈mF m o2 l3 o4 l5 r2 r4,G' a=none)(hh:∀a∈mF m o2 l3 o4 l5 r2 r4,H' a=H a):Mv K C st G' H' m dx v1 o2 l3 o4 l5 r2 r4:=
 ⟨by rw[hh m Mv.m1];exact h.i,h.h1.mono g,by rw[hh _ Mv.m2];exact h.h2,h.n2,λi a e=>by rw[hh _ (Mv.mr e)];exact h.e2 i a e,by rw[hh _ Mv.m3];exact h.h3,by rw[hh _ Mv.m4];exact h.h4,h.n4,λi a e=>by rw[hh _ (Mv.mt e)];exact h.e4 i a e,by rw[hh _ Mv.m5];exact h.h5,h.nd,hg⟩
def fL (G:Hp)(fs:List adV):Hp:=λa=>if a∈fs then none else G a
theorem nX (h:a∉fs):fL G fs a=G a:=by unfold fL;rw[rf h]
theorem zc (h:a∈fs):fL G fs a=none:=by unfold fL;rw[uu h]
theorem YH (h:fL G fs a=some o):a∉fs/\G a=some o:=by
 grind [zc,nX]
theorem ux (hg:∀a∈fs,G a=none)(e:Step (cD G H fs) H G' H'):Step G H (fL G' fs) H':=by
 refine⟨λa o ha=>?_,e.h,λa o ha=>e.s _ _ (YH ha).2,λa h1 h2=>?_⟩
 ·have n:a∉fs:=λz=>'J'
  rw[nX n];exact e.g _ _ (by rw[nT n];exact ha)
 ·have n:=λz=>h2 (zc z)
  rw[nX n]at h2;exact e.n a (by rw[nT n];exact h1) h2
theorem Mv.look (h:Mv K C st G H m dx v1 o2 l3 o4 l5 r2 r4)(e:Step (cD G H (mF m o2 l3 o4 l5 r2 r4)) H G' H'):Mv K C st (fL G' (mF m o2 l3 o4 l5 r2 r4)) H' m dx v1 o2 l3 o4 l5 r2 r4:=
 h.mono (ux h.g e).g (λa ha=>zc ha) λa ha=>by
  obtain⟨o,ho⟩:=h.there a ha;rw[ho,e.h _ _ ho]
theorem Mv.keep (h:Mv K C st G H m dx v1 o2 l3 o4 l5 r2 r4)(e:aj H H'):Mv K C st G H' m dx v1 o2 l3 o4 l5 r2 r4:=
 h.mono (aj.refl _) h.g λa ha=>by
  obtain⟨o,ho⟩:=h.there a ha;rw[ho,e _ _ ho]
end
theorem jk {l:List adV}(h1:p∉l)(h2:a∈l):upd H p o a=H a:=aQ λz=>h1 'J'
theorem jN {l:List adV}(h1:a∉l)(h2:p∈l):upd H p o a=H a:=aQ λz=>h1 'J'
structure Sx (G H:Hp) (F:List adV) (G' H':Hp) (F':List adV):Prop where
 g:aj G G'
 h:∀a o,a∉F->H a=some o->H' a=some o
 s:aj G' H'
 n:∀a,G a=none->G' a≠none->H a=none
 f:∀a∈F',a∈F\/H a=none
 k:∀a,H' a=none->H a=none
section
theorem Sx.step (e:Step G H G1 H1):Sx G H F G1 H1 F:=⟨e.g,λa o _ h=>e.h a o h,e.s,e.n,λa h=>.inl h,λa h=>e.h.free h⟩
theorem Sx.trans (a:Sx G H F G1 H1 F1)(b:Sx G1 H1 F1 G2 H2 F2):Sx G H F G2 H2 F2:=by
 refine⟨a.g.trans b.g,λx o hx h=>b.h x o (λz=>?_) (a.h x o hx h),b.s,λx h1 h2=>?_,λx hx=>?_,λx h=>a.k x (b.k x h)⟩
 ·obtain z|z:=a.f x z
  ·exact hx z
  ·simp_all
 ·by_cases z:G1 x=none
  ·exact a.k x (b.n x z h2)
  ·exact a.n x h1 z
 ·obtain z|z:=b.f x hx
  ·exact a.f x z
  ·exact .inr (a.k x z)
theorem Sx.put (s:aj G H)(hp:p∈F)(hg:G p=none):Sx G H F G (upd H p o) F:=
 ⟨aj.refl _,λa u ha h=>by rw[jN ha hp];exact h,λa u h=>by rw[aQ λz=>'J'];exact s a u h,λa h h'=>absurd h h',λa h=>.inl h,λa h=>by
  grind [bQ,aQ]⟩
theorem Sx.more (a:Sx G H F G1 H1 F1)(h:∀x∈F',x∈F1\/H x=none):Sx G H F G1 H1 F':=⟨a.g,a.h,a.s,a.n,λx hx=>(h x hx).elim (a.f x) .inr,a.k⟩
end
theorem uj {F:aS ι}(ha:a8 F Φ e ta)(ea:er ta=.lst xs):tf F Φ tg e xs:=by
 obtain⟨τ,p,q⟩:_:=ha.use;refine⟨sP F.K τ,λi=>F.hK i▸yq (p i),λσ G H R s r k=>q σ G H _ s r λx G1 H1 s1 hx=>?_⟩;rw[ea]at hx;obtain⟨l,vs,rfl,h1,h2⟩:=hx;refine⟨l,rfl,⟨vs,s1.s.seq h1⟩,k _ G1 H1 s1 λj G2 H2 sg sh=>⟨λd hd=>?_,λhz=>⟨vs,(sg.trans sh).seq h1,by rw[<- h2.length,hz];exact br _⟩⟩⟩;obtain⟨v,q1,q2⟩:_:=h2.get hd;refine⟨⟨vs,v,(sg.trans sh).seq h1,q1⟩,?_⟩;rintro x H3 ⟨rfl,hx⟩;have:=hx vs ((sg.trans sh).seq h1);rw[q1]at this;cases this;exact⟨G2,.refl sh,q2.mono sg⟩
theorem YJ {F:aS ι}{elts:List Expr}{kk:Nat}{tp pos:Pos}(hm:F.mg "zip"=none)(ha:oA F Φ [a,b] [d1,d2])(ea:d1=.lst xs)(eb:d2=.lst ys){p:Pos}(hg:∀i,Gl (F.cx i) "zip":=by intro _;rfl)(hs:∀i,starEach [a,b] (F.cx i).env=[(false,eval a (F.cx i).env),(false,eval b (F.cx i).env)]:=by intro _;rfl)(dq:∀i,starEach [b] (F.cx i).env=[(false,eval b (F.cx i).env)]:=by intro _;rfl):
  tf F Φ (.Tuple elts kk tp) (.Call (.Name "zip" p) [a,b] [] pos) (iV xs ys):=by
 obtain⟨τ,p,q⟩:_:=ha;refine⟨F6 F.K τ,λi=>F.hK i▸M0 (hg i) ((F.hm i).symm▸hm) (p i) (hs i) (dq i),λσ G H R s r k=>q σ G H _ s r λvs G1 H1 s1 hx=>?_⟩;subst ea eb;obtain⟨x,y,rfl,⟨l1,us,rfl,g1,g2⟩,⟨l2,ws,rfl,g3,g4⟩⟩:_:=p8 hx;have e1:=g2.length;have e2:=g4.length;refine⟨l1,l2,us,ws,rfl,s1.s.seq g1,s1.s.seq g3,k _ G1 H1 s1 λj G2 H2 sg sh=>⟨λd hd=>?_,λhz=>?_⟩⟩
 ·unfold iV at hd;rw[Pd]at hd;cases qx:xs[j]? with
  |none=>rw[qx]at hd;cases hd
  |some dx=>
   cases qy:ys[j]? with
   |none=>rw[qx,qy]at hd;cases hd
   |some dy=>
    rw[qx,qy]at hd;cases hd;obtain⟨vx,x1,x2⟩:_:=g2.get qx;obtain⟨vy,y1,y2⟩:_:=g4.get qy;have lx:=(gz.mp x1).1;have ly:=(gz.mp y1).1;refine⟨⟨(sg.trans sh).seq g1,(sg.trans sh).seq g3,'O'⟩,?_⟩;intro x H3 z9;obtain⟨T,wx,wy,hT,z1,z2,rfl,rfl⟩:_:=z9;rw[x1]at z1;rw[y1]at z2;cases z1;cases z2;exact⟨_,.new sh hT,T,_,rfl,cS.of bQ,_,_,rfl,(x2.mono sg).mono (aj.new (sh.free hT)),_,_,rfl,(y2.mono sg).mono (aj.new (sh.free hT)),rfl⟩
 ·refine⟨(sg.trans sh).seq g1,(sg.trans sh).seq g3,?_⟩
  grind [iV]
theorem zf {F:aS ι}(h:a8 F Φ e t)(s:aj G H)(f : Φ G σ)(k:Kv F.K G H t Q):uE F e σ H Q:=by obtain⟨τ,p,q⟩:=h;exact⟨τ,p,q σ G H Q s f k⟩
theorem Oj:∀{ns:LI} {vs:List V} {fq:List adV},aV K G H (ns.map ti) vs fq->vs=ns.map V.int/\fq=[]
 |[],_,_,z9=>by obtain⟨h1,h2⟩:=z9;exact⟨h1,h2⟩
 |n::ns,_,_,z9=>by
  obtain⟨v,r,f1,f2,h1,h2,h3,h4⟩:=z9;obtain⟨e1,e2⟩:=Oj h4;obtain⟨q1,q2⟩:=h3
  grind [aO]
theorem vz (h:Ow K G H (aA ns) v fq):∃p,v=.ref p/\H p=some (.lst (ns.map V.int))/\fq=[p]:=by
 obtain⟨a,vs,f,rfl,h1,h2,rfl⟩:_:=h
 grind [Oj]
section
variable {l3:adV}
theorem Mv.dis (h:Mv K C st G H m dx v1 o2 l3 o4 l5 r2 r4):(m≠o2/\m≠l3/\m≠o4/\m≠l5/\m∉r2/\m∉r4)/\(o2≠l3/\o2≠o4/\o2≠l5/\o2∉r2/\o2∉r4)/\(l3≠o4/\l3≠l5/\l3∉r2/\l3∉r4)/\(o4≠l5/\o4∉r2/\o4∉r4)/\(l5∉r2/\l5∉r4)/\r2.Nodup/\r4.Nodup/\∀a,a∈r2->a∈r4->False:=by
 have nd:=h.nd;simp[AE,qr,not_or]at nd;obtain⟨a,b,c,d,e,f⟩:_:=nd;obtain⟨f1,f2,f3⟩:_:=ze.mp f;exact⟨a,b,c,d,e,f1,f2,λx h1 h2=>f3 x h1 x h2 rfl⟩
theorem Ol {r:List adV}(nd:r.Nodup){j:Nat}(h1:r[i]?=some a)(h2:r[j]?=some b)(ne:i≠j):a≠b:=λz=>by
 subst z;have l1:=(gz.mp h1).1;exact ne ((List.getElem?_inj l1 nd).mp (h1.trans h2.symm))
theorem Mv.adq (h:Mv K C st G H m dx v1 o2 l3 o4 l5 r2 r4)(u:Nat->Int):Mv K C {st with s:={st.s with sp:=u}} G (upd H l3 (cU st.M u)) m dx v1 o2 l3 o4 l5 r2 r4:=by
 obtain⟨⟨_,a2,_⟩,⟨b1,_⟩,⟨c1,c2,c3,c4⟩,_⟩:_:=h.dis;exact⟨by rw[aQ a2];exact h.i,h.h1,by rw[aQ b1];exact h.h2,h.n2,λi a e=>by rw[jk c3 (ba e)];exact h.e2 i a e,bQ,by rw[aQ c1.symm];exact h.h4,h.n4,λi a e=>by rw[jk c4 (ba e)];exact h.e4 i a e,by rw[aQ c2.symm];exact h.h5,h.nd,h.g⟩
theorem Mv.ads (h:Mv K C st G H m dx v1 o2 l3 o4 l5 r2 r4)(u:Nat->Int):Mv K C {st with s:={st.s with wn:=u}} G (upd H l5 (cU st.A u)) m dx v1 o2 l3 o4 l5 r2 r4:=by
 obtain⟨⟨_,_,_,a4,_⟩,⟨_,_,b3,_⟩,⟨_,c2,_⟩,⟨d1,_⟩,⟨e1,e2⟩,_⟩:_:=h.dis;exact⟨by rw[aQ a4];exact h.i,h.h1,by rw[aQ b3];exact h.h2,h.n2,λi a e=>by rw[jk e1 (ba e)];exact h.e2 i a e,by rw[aQ c2];exact h.h3,by rw[aQ d1];exact h.h4,h.n4,λi a e=>by rw[jk e2 (ba e)];exact h.e4 i a e,bQ,h.nd,h.g⟩
theorem Mv.adt (h:Mv K C st G H m dx v1 o2 l3 o4 l5 r2 r4)(hp:r2[j]?=some p)(u:Nat->Int):Mv K C {st with s:={st.s with own:=λb=>if b=j then u else st.s.own b}} G (upd H p (cU st.M u)) m dx v1 o2 l3 o4 l5 r2 r4:=by
 obtain⟨⟨_,_,_,_,a5,_⟩,⟨_,_,_,b4,_⟩,⟨_,_,c3,_⟩,⟨_,d2,_⟩,⟨e1,_⟩,n2,_,x⟩:_:=h.dis;have mp:=ba hp;refine⟨by rw[jN a5 mp];exact h.i,h.h1,by rw[jN b4 mp];exact h.h2,h.n2,λi a e=>?_,by rw[jN c3 mp];exact h.h3,by rw[jN d2 mp];exact h.h4,h.n4,λi a e=>by rw[jk (x p mp) (ba e)];exact h.e4 i a e,by rw[jN e1 mp];exact h.h5,h.nd,h.g⟩;show upd H p (cU st.M u) a=some (cU st.M (if i=j then u else st.s.own i));by_cases z:i=j
 ·subst z;rw[hp]at e;cases e;rw[bQ,uu rfl]
 ·rw[aQ (Ol n2 e hp z),rf z];exact h.e2 i a e
theorem Mv.adu (h:Mv K C st G H m dx v1 o2 l3 o4 l5 r2 r4){j:Nat}{p:adV}(hp:r4[j]?=some p)(u:Nat->Int):Mv K C {st with s:={st.s with got:=λb=>if b=j then u else st.s.got b}} G (upd H p (cU st.M u)) m dx v1 o2 l3 o4 l5 r2 r4:=by
 obtain⟨⟨_,_,_,_,_,a6⟩,⟨_,_,_,_,b5⟩,⟨_,_,_,c4⟩,⟨_,_,d3⟩,⟨_,e2⟩,_,n4,x⟩:_:=h.dis;have mp:=ba hp;refine⟨by rw[jN a6 mp];exact h.i,h.h1,by rw[jN b5 mp];exact h.h2,h.n2,λi a e=>by rw[jk (λz=>x p z mp) (ba e)];exact h.e2 i a e,by rw[jN c4 mp];exact h.h3,by rw[jN d3 mp];exact h.h4,h.n4,λi a e=>?_,by rw[jN e2 mp];exact h.h5,h.nd,h.g⟩;show upd H p (cU st.M u) a=some (cU st.M (if i=j then u else st.s.got i));by_cases z:i=j
 ·subst z;rw[hp]at e;cases e;rw[bQ,uu rfl]
 ·rw[aQ (Ol n4 e hp z),rf z];exact h.e4 i a e
theorem FD (a:m≠o2/\m≠l3/\m≠o4/\m≠l5/\m∉r2/\m∉r4)(b:o2≠l3/\o2≠o4/\o2≠l5/\o2∉r2/\o2∉r4)(c:l3≠o4/\l3≠l5/\l3∉r2/\l3∉r4)(d:o4≠l5/\o4∉r2/\o4∉r4)(e:l5∉r2/\l5∉r4)(f1:r2.Nodup)(f2:r4.Nodup)(f3:∀a,a∈r2->a∈r4->False):(mF m o2 l3 o4 l5 r2 r4).Nodup:=by
 simp[AE,qr,not_or];exact⟨a,b,c,d,e,ze.mpr ⟨f1,f2,λx h1 y h2 z=>f3 x h1 (z▸h2)⟩⟩
theorem Om (h:p∉mF m o2 l3 o4 l5 r2 r4):p≠m/\p≠o2/\p≠l3/\p≠o4/\p≠l5/\p∉r2/\p∉r4:=by
 simp_all
theorem Mv.adw (h:Mv K C st G H m dx v1 o2 l3 o4 l5 r2 r4)(hp:p∉mF m o2 l3 o4 l5 r2 r4)(hg:G p=none)(u:Nat->Int)(e:H p=some (cU st.M u)):
  Mv K C {st with s:={st.s with sp:=u}} G (upd H m (.ins C dx [("orders",v1),("owned",.ref o2),("spare",.ref p),("got",.ref o4),("wanted",.ref l5)])) m dx v1 o2 p o4 l5 r2 r4:=by
 obtain⟨⟨a1,a2,a3,a4,a5,a6⟩,⟨b1,b2,b3,b4,b5⟩,⟨c1,c2,c3,c4⟩,⟨d1,d2,d3⟩,⟨e1,e2⟩,n2,n4,x⟩:_:=h.dis;obtain⟨p1,p2,p3,p4,p5,p6,p7⟩:_:=Om hp;refine⟨bQ,h.h1,by rw[aQ a1.symm];exact h.h2,h.n2,λi a e=>by rw[jk a5 (ba e)];exact h.e2 i a e,by rw[aQ p1];exact e,by rw[aQ a3.symm];exact h.h4,h.n4,λi a e=>by rw[jk a6 (ba e)];exact h.e4 i a e,by rw[aQ a4.symm];exact h.h5,FD ⟨a1,p1.symm,a3,a4,a5,a6⟩ ⟨p2.symm,b2,b3,b4,b5⟩ ⟨p4,p5,p6,p7⟩ ⟨d1,d2,d3⟩ ⟨e1,e2⟩ n2 n4 x,λa ha=>?_⟩;obtain z|ha:=ff.mp ha
 ·exact z▸h.g _ Mv.m1
 obtain z|ha:=ff.mp ha
 ·exact z▸h.g _ Mv.m2
 obtain z|ha:=ff.mp ha
 ·simp_all
 ·exact h.g a (.tail _ (.tail _ (.tail _ ha)))
theorem Oo:∀{r:List adV} {j:Nat} {p:adV},r.Nodup->p∉r->(r.set j p).Nodup
 |[],_,_,_,_=>.nil
 |a::r,0,p,h,n=>AE.mpr ⟨λz=>n (.tail _ z),(AE.mp h).2⟩
 |a::r,j+1,p,h,n=>AE.mpr ⟨λz=>(US z).elim (AE.mp h).1 λz=>n (z▸.head _),Oo (AE.mp h).2 λz=>n (.tail _ z)⟩
theorem Mv.jR (h:Mv K C st G H m dx v1 o2 l3 o4 l5 r2 r4)(hp:p∉mF m o2 l3 o4 l5 r2 r4)(hg:G p=none)(j:Nat)(u:Nat->Int)(e:H p=some (cU st.M u)):
  Mv K C {st with s:={st.s with own:=λb=>if b=j then u else st.s.own b}} G (upd H o2 (.lst ((r2.set j p).map V.ref))) m dx v1 o2 l3 o4 l5 (r2.set j p) r4:=by
 obtain⟨⟨a1,a2,a3,a4,a5,a6⟩,⟨b1,b2,b3,b4,b5⟩,⟨c1,c2,c3,c4⟩,⟨d1,d2,d3⟩,⟨e1,e2⟩,n2,n4,x⟩:_:=h.dis;obtain⟨p1,p2,p3,p4,p5,p6,p7⟩:_:=Om hp;have sub:∀a,a∈r2.set j p->a=p\/a∈r2:=λa ha=>(US ha).symm
 have off:∀{a},a≠p->a∉r2->a∉r2.set j p:=λ{a} h1 h2 z=>(sub a z).elim h1 h2
 have nd:(r2.set j p).Nodup:=Oo n2 p6;refine⟨by rw[aQ a1];exact h.i,h.h1,bQ,by rw[PM];exact h.n2,λi a ea=>?_,by rw[aQ b1.symm];exact h.h3,by rw[aQ b2.symm];exact h.h4,h.n4,λi a e=>by rw[jk b5 (ba e)];exact h.e4 i a e,by rw[aQ b3.symm];exact h.h5,FD ⟨a1,a2,a3,a4,off p1.symm a5,a6⟩ ⟨b1,b2,b3,off p2.symm b4,b5⟩ ⟨c1,c2,off p3.symm c3,c4⟩ ⟨d1,off p4.symm d2,d3⟩ ⟨off p5.symm e1,e2⟩ nd n4 (λa h1 h2=>(sub a h1).elim (λz=>p7 (z▸h2)) λz=>x a z h2),λa ha=>?_⟩
 ·show upd H o2 _ a=some (cU st.M (if i=j then u else st.s.own i));rw[afQ]at ea;by_cases q:j=i
  ·grind [aQ]
  ·rw[rf q]at ea;rw[jk b4 (ba ea),rf λz=>q z.symm];exact h.e2 i a ea
 obtain z|ha:=ff.mp ha
 ·exact z▸h.g _ Mv.m1
 obtain z|ha:=ff.mp ha
 ·exact z▸h.g _ Mv.m2
 obtain z|ha:=ff.mp ha
 ·exact z▸h.g _ Mv.m3
 obtain z|ha:=ff.mp ha
 ·exact z▸h.g _ Mv.m4
 obtain z|ha:=ff.mp ha
 ·exact z▸h.g _ Mv.m5
 obtain z|z:=qr.mp ha
 ·obtain z|z:=sub a z
  ·simp_all
  ·exact h.g a (.tail _ (.tail _ (.tail _ (.tail _ (.tail _ (xy _ z))))))
 ·exact h.g a (.tail _ (.tail _ (.tail _ (.tail _ (.tail _ (l7 _ z))))))
end
theorem yC (h:j<n):dW n (j:Int)=some j:=by
 unfold dW
 simp_all
theorem abC {k:Nat}(h:(iV xs ys)[k]?=some d):∃x y,xs[k]?=some x/\ys[k]?=some y/\d=.tup [x,y]:=by
 unfold iV at h;rw[Pd]at h;cases e:xs[k]? with
 |none=>rw[e]at h;cases h
 |some x=>
  cases e2:ys[k]? with
  |none=>rw[e,e2]at h;cases h
  |some y=>rw[e,e2]at h;exact⟨x,y,rfl,rfl,(FF h).symm⟩
theorem zg (A:Nat)(f:Nat->Int):Tr.ow (((List.range A).filter λ_=>true).map λ(k:Nat)=>ti (f k))=aA (bC A f):=by
 rw[aea.mpr λ_ _=>rfl]
 simp_all
abbrev yD:age:=nQ 7
theorem YK:aY ["self", "asker"] ["self", "asker"] (az yD):=sk
abbrev R1 (P:agc)(w:agd)(K:Frag)(mg:Str->Option vn)(base:Heap)(f:adV)(k:Nat):=jv P w K mg base ["self", "asker"] "Market.leave" (az yD) f k
def QA (K:Frag)(C:adV):Sp:=λvs H Q _=>∃(G:Hp) (m:adV) (a:Nat) (st:Ms) (dx:adV) (v1:V) (o2 l3 o4 l5:adV) (r2 r4:List adV),vs=[.ref m,.int (a:Int)]/\aj G H/\Mv K C st G H m dx v1 o2 l3 o4 l5 r2 r4/\a<st.A/\st.M<=7 /\
 ∀G' H' fk gi,Sx G H (mF m o2 l3 o4 l5 r2 r4) G' H' (mF m o2 fk o4 l5 gi r4)->Mv K C {st with s:=af.lv st.s a} G' H' m dx v1 o2 fk o4 l5 gi r4->Q .aW H'
theorem YL (F:fE K "leave" "Market.leave" yD .none f fd)(T:Txt mg)(U:k6 K C):bS P w K mg base bx (k+1) f fd ["self", "asker"] (QA K C):=by
 refine F.ok YK (λvs H Q E z9=>by obtain⟨_,_,_,_,_,_,_,_,_,_,_,_,h1,_⟩:_:=z9;rw[h1];rfl) λaN A outer s H vs Q E hr h=>?_
 obtain⟨G,m,a,st,dx,v1,o2,l3,o4,l5,r2,r4,rfl,sm,M,ha,hM,kv⟩:_:=h;refine⟨_,dr (su (pv 0) (dR (F:=R1 P w K mg base f k) ⟨aN,A,outer,s,H,E,hr⟩) rfl) (gG (so (dR (F:=R1 P w K mg base f k) ⟨aN,A,outer,s,H,E,hr⟩) (nZ (mV (pv 0) rfl) (pv 1) set_list))),?_⟩;have big:=cw;have mo:∀{st:Ms},Mo (jI K C st ["self", "asker"] [di a]):=Eu;have el:(iV ((bC st.M st.s.sp).map di) ((bC st.M (st.s.own a)).map di)).length=st.M:=by
  unfold iV;rw[List.length_zipWith,aa,aa,aa,aa,vc,af8]
 refine zf (t:=aA (bC st.M λx=>st.s.sp x+st.s.own a x)) (a8.to (se (ρ:=[none]) (own:=["parts", "more"]) (fr:=[]) (λi=>cv) (λG σ _=>DA) (YJ (d1:=dis (bC st.M st.s.sp)) T.Fp (mG mo (jK (C:=C) (d:=dis (bC st.M st.s.sp)) 0 U.cl U.n3 vQ (λi=>pv 0)) (mG mo (mZ mo (jK (C:=C) (d:=kZ st.A st.M st.s.own) 0 U.cl U.n2 Qu (λi=>pv 0)) (Ev.p (by exact ae 1 rfl) pN) rfl (Px _ ha)) rM)) rfl rfl) (iT 0 1 (λ_=>bT)) 'Q' (λ_=>true) (λ(k:Nat)=>ti (st.s.sp k+st.s.own a k)) (by rw[el];lia) (λk d hd=>?_)) (by rw[el];exact zg _ _)) (gk sm) ⟨m,_,rfl,M.th,_,_,rfl,⟨rfl,rfl⟩,rfl⟩ λv G1 H1 fq s1 ow nw=>?_
 ·obtain⟨x,y,hx,hy,rfl⟩:_:=abC hd;obtain⟨_,rfl⟩:=yY hx;obtain⟨_,rfl⟩:=yY hy;exact⟨_,rfl,sD,λ_=>by exact fA (ae 0 rfl) (ae 1 rfl)⟩
 obtain⟨p,rfl,hp,rfl⟩:=vz ow;have M1:=M.look s1;have e1:=ux M.g s1;have pn:=nw.n p (.head _);have pF:p∉mF m o2 l3 o4 l5 r2 r4:=λz=>by
  obtain⟨o,ho⟩:=M.there p z;rw[pn]at ho;cases ho
 have pg:fL G1 (mF m o2 l3 o4 l5 r2 r4) p=none:=by rw[nX pF];exact nw.g p (.head _)
 refine⟨.ref m,rfl,m,C,dx,_,rfl,M1.i,U.cl,U.n3,by show 5<1000;decide,?_⟩;have M2:=M1.adw pF pg _ hp;have x2:Sx G H (mF m o2 l3 o4 l5 r2 r4) (fL G1 (mF m o2 l3 o4 l5 r2 r4)) (upd H1 m (.ins C dx [("orders",v1),("owned",.ref o2),("spare",.ref p),("got",.ref o4),("wanted",.ref l5)])) (mF m o2 p o4 l5 r2 r4):=((Sx.step e1).trans (.put e1.s Mv.m1 (M1.g _ Mv.m1))).more λx hx=>by
  obtain z|hx:=ff.mp hx
  ·exact .inl (z▸Mv.m1)
  obtain z|hx:=ff.mp hx
  ·exact .inl (z▸Mv.m2)
  obtain z|hx:=ff.mp hx
  ·exact .inr (z▸pn)
  ·exact .inl (.tail _ (.tail _ (.tail _ hx)))
 generalize fL G1 (mF m o2 l3 o4 l5 r2 r4)=G2 at M2 x2;have eH:upd H1 m (.ins C dx (gJ "spare" (.ref p) [("orders",v1),("owned",.ref o2),("spare",.ref l3),("got",.ref o4),("wanted",.ref l5)]))=upd H1 m (.ins C dx [("orders",v1),("owned",.ref o2),("spare",.ref p),("got",.ref o4),("wanted",.ref l5)]):=rfl;rw[eH];generalize upd H1 m (.ins C dx [("orders",v1),("owned",.ref o2),("spare",.ref p),("got",.ref o4),("wanted",.ref l5)])=H2 at M2 x2;generalize iG:({st with s:={st.s with sp:=λx=>st.s.sp x+st.s.own a x}}:Ms)=aZ at M2;have eM:aZ.M=st.M:=by rw[<- iG]
 refine zf (Φ:=jI K C aZ ["self", "asker"] [di a]) (t:=aA (bC aZ.M λ_=>0)) (a8.to (se (ρ:=[none]) (own:=["parts"]) (fr:=[]) (λi=>cv) (λG σ _=>DA) (uj (jK (C:=C) (d:=dis (bC aZ.M aZ.s.sp)) 0 U.cl U.n3 vQ (λi=>pv 0)) rfl) (bu 0 (λ_=>bT)) 'Q' (λ_=>true) (λ(k:Nat)=>ti 0) (by rw[aa,aa,vc];lia) (λk d hd=>⟨_,rfl,sD,λ_=>by exact ai⟩)) (by rw[aa,aa,vc];exact zg _ _)) (gk x2.s) ⟨m,_,rfl,M2.th,_,_,rfl,⟨rfl,rfl⟩,rfl⟩ λv G3 H3 fq s3 ow R3=>?_
 obtain⟨q,rfl,hq,rfl⟩:=vz ow;have M3:=M2.look s3;have e3:=ux M2.g s3;have qn:=R3.n q (.head _);have qF:q∉mF m o2 p o4 l5 r2 r4:=λz=>by
  obtain⟨o,ho⟩:=M2.there q z;rw[qn]at ho;cases ho
 have qg:fL G3 (mF m o2 p o4 l5 r2 r4) q=none:=by rw[nX qF];exact R3.g q (.head _)
 refine⟨_,rfl,m,C,dx,_,.ref o2,rfl,M3.i,U.cl,U.n2,rfl,.int (a:Int),rfl,o2,_,a,a,rfl,rfl,M3.h2,?_,?_⟩
 ·rw[aa,M3.n2];exact yC (by rw[<- iG];exact ha)
 rw[<- List.map_set];have M4:=M3.jR qF qg a _ hq;have x4:Sx G2 H2 (mF m o2 p o4 l5 r2 r4) (fL G3 (mF m o2 p o4 l5 r2 r4)) (upd H3 o2 (.lst ((r2.set a q).map V.ref))) (mF m o2 p o4 l5 (r2.set a q) r4):=((Sx.step e3).trans (.put e3.s Mv.m2 (M3.g _ Mv.m2))).more λx hx=>by
  obtain z|hx:=ff.mp hx
  ·exact .inl (z▸Mv.m1)
  obtain z|hx:=ff.mp hx
  ·exact .inl (z▸Mv.m2)
  obtain z|hx:=ff.mp hx
  ·exact .inl (z▸Mv.m3)
  obtain z|hx:=ff.mp hx
  ·exact .inl (z▸Mv.m4)
  obtain z|hx:=ff.mp hx
  ·exact .inl (z▸Mv.m5)
  obtain z|z:=qr.mp hx
  ·obtain z|z:=US z
   ·exact .inl (.tail _ (.tail _ (.tail _ (.tail _ (.tail _ (xy _ z))))))
   ·exact .inr (z▸qn)
  ·exact .inl (.tail _ (.tail _ (.tail _ (.tail _ (.tail _ (l7 _ z))))))
 refine kv _ _ p (r2.set a q) (x2.trans x4) ?_;have es:({aZ with s:={aZ.s with own:=λb=>if b=a then (λ_=>0)else aZ.s.own b}}:Ms)={st with s:=af.lv st.s a}:=by
  rw[<- iG];have:(λb=>if b=a then (λ_=>(0:Int))else st.s.own b)=λb x=>if b=a then 0 else st.s.own b x:=by
   funext b x
   by_cases z:b=a
   ·rw[uu z,uu z]
   ·rw[rf z,rf z]
  unfold af.lv;rw[<- this]
 exact es▸M4
end
section
theorem yE (R:List α)(c : α)(p : α->Bool):af.cn (R++[c]) p=af.cn R p+if p c then 1 else 0:=by
 unfold af.cn;rw[aej,xw];cases h:p c with
 |true=>rw[List.filter_cons_of_pos h];simp
 |false=>rw[List.filter_cons_of_neg (by rw[h];decide)];simp
theorem Oq (go:Go st):∀f P x,af.Pt st.A st.O st.s P x->P.length+f=st.A+1->af.Pt st.A st.O st.s (lV st.A st.O st.s f P x).1 (lV st.A st.O st.s f P x).2/\(lV st.A st.O st.s f P x).2∈(lV st.A st.O st.s f P x).1
 |0=>λP x h e=>by
  have:=oi h.nd λc hc=>(h.rg c hc).1
  lia
 |f+1=>λP x h e=>by
  obtain⟨hA,hM,ok,B,cnt,sh,Gn,n,iv,hn,hc⟩:_:=id go;unfold lV;by_cases hx:x∈P
  ·simp_all
  ·rw[rf hx];exact Oq go f _ _ (h.next ok iv hn hc hx) (by grind)
theorem EA (go:Go st)(hw:af.cW st.A st.s≠[]):af.Pt st.A st.O st.s (nr st).1 (nr st).2/\(nr st).2∈(nr st).1:=by
 refine Oq go _ _ _ ⟨.nil,(λc hc=>nomatch hc),?_,λi c hi=>by cases hi⟩ 'Y';cases e:af.cW st.A st.s with
 |nil=>exact absurd e hw
 |cons c l=>
  have:c∈af.cW st.A st.s:=by rw[e];exact .head _
  obtain⟨h1,h2⟩:=B0.mp this;exact⟨l9.mp h1,GS h2⟩
theorem CW (go:Go st)(hw:af.cW st.A st.s≠[]):(∀c∈bE st,c<st.A/\0<st.s.wn c)/\bE st≠[]:=by
 obtain⟨p,h⟩:=EA go hw;refine⟨λc hc=>p.rg c (ad2 hc),λz=>?_⟩
 grind [bE,List.drop_eq_nil_iff]
def Pa (st:Ms)(p:Int):Prop:=(∃c∈bE st,p=st.s.wn c\/p=gP st (af.best st.A st.O st.s c) (af.nx st.A st.O st.s c) (af.best st.A st.O st.s c))/\∀c∈bE st,p<=st.s.wn c/\p<=gP st (af.best st.A st.O st.s c) (af.nx st.A st.O st.s c) (af.best st.A st.O st.s c)
theorem PB (go:Go st)(hw:af.cW st.A st.s≠[])(h:Pa st p):af.Rg st.A st.O st.s (bE st) p/\∃c∈bE st,p=st.s.wn c\/(0<st.s.sp (af.best st.A st.O st.s c)/\p=st.s.sp (af.best st.A st.O st.s c))\/(¬0<st.s.sp (af.best st.A st.O st.s c)/\p=st.s.own (af.nx st.A st.O st.s c) (af.best st.A st.O st.s c)):=by
 obtain⟨hA,hM,ok,B,cnt,sh,Gn,n,iv,hn,hc⟩:_:=id go;obtain⟨pt,hx⟩:=EA go hw;obtain⟨⟨c,cP,e⟩,le⟩:_:=h;have rm:=(CW go hw).1;have sv:∀c,(0<st.s.sp (af.best st.A st.O st.s c)->gP st (af.best st.A st.O st.s c) (af.nx st.A st.O st.s c) (af.best st.A st.O st.s c)=st.s.sp (af.best st.A st.O st.s c))/\(¬0<st.s.sp (af.best st.A st.O st.s c)->gP st (af.best st.A st.O st.s c) (af.nx st.A st.O st.s c) (af.best st.A st.O st.s c)=st.s.own (af.nx st.A st.O st.s c) (af.best st.A st.O st.s c)):=λc=>⟨λz=>by unfold gP;rw[uu z],λz=>by unfold gP;rw[rf z]⟩
 have pos:∀c∈bE st,0<gP st (af.best st.A st.O st.s c) (af.nx st.A st.O st.s c) (af.best st.A st.O st.s c):=λc cP=>by
  by_cases z : 0<st.s.sp (af.best st.A st.O st.s c)
  ·rw[(sv c).1 z];exact z
  ·rw[(sv c).2 z];exact(af.zE ok iv hn hc (rm c cP).1 (rm c cP).2).2.2 z
 have p0 : 0<p:=by
  obtain e|e:=e
  ·rw[e];exact(rm c cP).2
  ·rw[e];exact pos c cP
 refine⟨pt.ring hx p0 (λc h=>(le c h).1) (λc h z=>(sv c).1 z▸(le c h).2) λc h z=>(sv c).2 z▸(le c h).2,c,cP,?_⟩;obtain e|e:=e
 ·exact .inl e
 ·by_cases z : 0<st.s.sp (af.best st.A st.O st.s c)
  ·exact .inr (.inl ⟨z,e.trans ((sv c).1 z)⟩)
  ·exact .inr (.inr ⟨z,e.trans ((sv c).2 z)⟩)
theorem YM (r:af.Rg A O s R p){j:Nat}(hi:R[i]?=some c)(hj:R[j]?=some d)(e:af.best A O s c=af.best A O s d):i=j:=by
 have:=r.inj c (ba hi) d (ba hj) (by unfold af.nx;rw[e]);subst this;exact(List.getElem?_inj (gz.mp hi).1 r.nd).mp (hi.trans hj.symm)
section
variable {R:List Nat}
theorem aap (r:af.Rg A O s R p)(hi:R[i]?=some c)(q:Nat->Bool):af.cn (R.take i) (λd=>decide (af.best A O s d=af.best A O s c)&&q d)=0:=af.Dr λd hd=>by
 obtain⟨j,hj⟩:=WI.mp hd
 grind [YM]
theorem abD (r:af.Rg A O s R p)(hi:R[i]?=some c):(af.aP A O s (R.take i) p).sp (af.best A O s c)=s.sp (af.best A O s c):=by
 show s.sp _-p*af.cn (R.take i) (λd=>decide (af.best A O s d=af.best A O s c)&&decide (0<s.sp (af.best A O s c)))=_;rw[aap r hi];simp
theorem take_snoc {α:Type}{R:List α}{c : α}(hi:R[i]?=some c):R.take (i+1)=R.take i++[c]:=by
 rw[List.take_add_one,hi];rfl
theorem YN (hi:R[i]?=some c):af.aP A O s (R.take (i+1)) p={own:=λg x=>(af.aP A O s (R.take i) p).own g x-(if af.nx A O s c=g/\af.best A O s c=x/\¬0<s.sp x then p else 0),sp:=λx=>(af.aP A O s (R.take i) p).sp x-(if af.best A O s c=x/\0<s.sp x then p else 0),got:=λa x=>(af.aP A O s (R.take i) p).got a x+(if c=a/\af.best A O s c=x then p else 0),wn:=λa=>(af.aP A O s (R.take i) p).wn a-(if c=a then p else 0)}:=by
 have sub:∀(v n) (b) (q) [Decidable q],(b=true↔q)->v-p*(n+if b=true then 1 else 0)=v-p*n-if q then p else 0:=λv n b q _ h=>by
  by_cases z:q
  ·rw[uu z,uu (h.mpr z),aeE];lia
  ·rw[rf z,rf λy=>z (h.mp y),aeE];lia
 have add:∀(v n) (b) (q) [Decidable q],(b=true↔q)->v+p*(n+if b=true then 1 else 0)=v+p*n+if q then p else 0:=λv n b q _ h=>by
  by_cases z:q
  ·rw[uu z,uu (h.mpr z),aeE];lia
  ·rw[rf z,rf λy=>z (h.mp y),aeE];lia
 rw[take_snoc hi];unfold af.aP;congr 1
 ·funext g x
  rw[yE];exact sub _ _ _ _ 'Y'
 ·funext x
  rw[yE];exact sub _ _ _ _ 'Y'
 ·funext a x
  rw[yE];exact add _ _ _ _ 'Y'
 ·funext a
  rw[yE];exact sub _ _ _ _ 'Y'
end
section
variable {F:aS ι}{pos:Pos}
theorem JP {id:String}(hc:∀i,eY (F.cx i) (.builtin id) r)(hm:F.mg x=none)(hv:bootBuiltins x=some (.builtin id))(ha:oA F Φ (e::es) dd)(h:∀G H xs Q,aj G H->aH F.K G dd xs->Kv F.K G H t Q->r xs H Q){p':Pos}(hg:∀i,Gl (F.cx i) x:=by intro _;rfl)(hn:x ≠ "__name__":=by decide)(eE:(x==("__debug__":Str))=false:=by decide)(he:∀i,starEach (e::es) (F.cx i).env=(false,eval e (F.cx i).env)::starEach es (F.cx i).env:=by intro _;rfl)(cJ:∀i,(backTo pos (starEach es (F.cx i).env)).any (·.1)=false:=by intro _;rfl):a8 F Φ (.Call (.Name x p') (e::es) [] pos) t:=by
 obtain⟨τ,y,z⟩:_:=ha;refine⟨lZ r τ,λi=>um (hc i) (hg i) ((F.hm i).symm▸hm) hv (y i) hn eE (he i) (cJ i),λσ G H Q s rr k=>z σ G H _ s rr λvs G1 H1 s1 hx=>?_⟩;exact h G1 H1 vs Q s1.s hx (k.step s1)
theorem Ku (hm:F.mg "min"=none)(ha:a8 F Φ e ta)(ea:er ta=dis ns)(h:m∈ns/\∀a∈ns,m<=a){p':Pos}(hg:∀i,Gl (F.cx i) "min":=by intro _;rfl)(hs:∀i,starEach [e] (F.cx i).env=[(false,eval e (F.cx i).env)]:=by intro _;rfl):a8 F Φ (.Call (.Name "min" p') [e] [] pos) (ti m):=
 JP (λi=>F.hK i▸W9 (F.calm i)) hm aa0 (BF ha hs) (λG H vs Q s hx k=>by
  obtain⟨x,rfl,dE⟩:=iA hx
  replace hx:=dE
  rw[ea]at hx;obtain⟨l,ys,rfl,h1,h2⟩:=hx;have:=mH h2;subst this;exact⟨l,ns,m,rfl,s.seq h1,h,k.sc s rfl⟩) hg 'Q' 'Q' hs (λ_=>rfl)
theorem aaq (mo:Mo Φ)(ha:a8 F Φ a ta)(hb:a8 F Φ b tb')(ea:er ta=.lst xs)(eb:er tb'=.lst ys)(hz:xs.length+ys.length<=sizeLine):a8 F Φ (.BinOp a .Add b pos) (.ow ((xs++ys).map .fz)):=
 LQ mo (λi=>F.hK i▸Lb) ha hb λG H x y Q s hx hy k=>by
  rw[ea]at hx;rw[eb]at hy;obtain⟨l,vs,rfl,h1,h2⟩:=hx;obtain⟨l',ws,rfl,h3,h4⟩:=hy;refine⟨l,l',vs,ws,rfl,rfl,s.seq h1,s.seq h3,by rw[<- h2.length,<- h4.length];exact hz,λp hp=>?_⟩;exact k.lst s (aH.jD (aH.F8 h2 h4)) hp
end
section
theorem rN {d0 d1 d2:Dv}{G:Hp}{σ:St}(h:∃ao vs,gW K C st 3 G ao/\ao.length=3+1/\aH K G [d0,d1,d2] vs/\σ=a7 [0,1,2] vs ao):aX K G [some (.fz d0),some (.fz d1),some (.fz d2),none] σ/\gW K C st 3 G σ:=by
 obtain⟨ao,vs,⟨m,hm,ht⟩,l,hv,e⟩:_:=h;obtain⟨x,r,rfl,hx,y,r2,rfl,hy,z,r3,rfl,hz,rfl⟩:_:=hv;obtain⟨s0,_,rfl,l1⟩:_:=oB l;obtain⟨s1,_,rfl,l2⟩:_:=oB l1;obtain⟨s2,r,rfl,_⟩:_:=oB l2;subst e;exact⟨gh hx (gh hy (gh hz (nR 'Y'))),m,hm,ht⟩
theorem AD:Mo λG σ => ∃ao vs,gW K C st 3 G ao/\ao.length=3+1/\aH K G dd vs/\σ=a7 [0,1,2] vs ao:=λG G' σ e z9=>by obtain⟨ao,vs,⟨m,h1,h2⟩,l,hv,es⟩:_:=z9;exact⟨ao,vs,⟨m,h1,h2.mono e⟩,l,hv.mono e,es⟩
theorem Mf (G:Hp)(σ:St)(vs:List V)(h:gW K C st 3 G σ):gW K C st 3 G (a7 [0,1,2] vs σ):=by
 obtain⟨m,h1,h2⟩:=h;refine⟨m,?_,h2⟩;obtain _|⟨x,_|⟨y,_|⟨z,r⟩⟩⟩:=vs
 ·exact h1
 ·show(σ.set 0 _)[3]?=_
  simp_all
 ·show((σ.set 0 _).set 1 _)[3]?=_
  simp_all
 ·show(((σ.set 0 _).set 1 _).set 2 _)[3]?=_
  simp_all
end
abbrev yF:age:=nQ 8
abbrev R4:List Str:=["self", "ring", "parts", "asker", "one", "giver", "source"]
theorem ke:aY R4 ["self"] (az yF):=sk
abbrev R5 (P:agc)(w:agd)(K:Frag)(mg:Str->Option vn)(base:Heap)(f:adV)(k:Nat):=jv P w K mg base R4 "Market.trade" (az yF) f k
def zX (st:Ms)(p:Int):Ms:={st with s:=((bE st).filter λa=>decide ((af.aP st.A st.O st.s (bE st) p).wn a=0)).foldl af.lv (af.aP st.A st.O st.s (bE st) p)}
def PC (K:Frag)(C:adV):Sp:=λvs H Q _=>∃(G:Hp) (m:adV) (st:Ms) (dx:adV) (v1:V) (o2 l3 o4 l5:adV) (r2 r4:List adV),vs=[.ref m]/\aj G H/\Mv K C st G H m dx v1 o2 l3 o4 l5 r2 r4/\Go st/\af.cW st.A st.s≠[] /\
 ∀G' H' fk gi p,Sx G H (mF m o2 l3 o4 l5 r2 r4) G' H' (mF m o2 fk o4 l5 gi r4)->Pa st p->Mv K C (zX st p) G' H' m dx v1 o2 fk o4 l5 gi r4->Q .aW H'
theorem Rw.fL {P:List Nat}(h:Rw st H G P rv)(t:∀a∈F,∃o,H a=some o):Rw st H (fL G F) P rv:=by obtain⟨ps,h1,h2,h3⟩:_:=h;exact⟨ps,h1,h2,λj p hj=>by obtain⟨a,c,b,d⟩:_:=h3 j p hj;exact⟨a,c,b,by
 rw[nX λz=>by
  obtain⟨o,ho⟩:=t p z;rw[a]at ho;cases ho]
 exact d⟩⟩
theorem CY:∀{l:LI},l≠[]->∃m,m∈l/\∀a∈l,m<=a
 |[],h=>absurd rfl h
 |[a],_=>⟨a,.head _,λb hb=>'J'⟩
 |a::b::l,_=>by
  obtain⟨m,h1,h2⟩:=CY (l:=b::l) 'Y'
  grind
theorem Mg {R:List Nat}{k:Nat}(h:(R.map (jw st))[k]?=some d):∃c,R[k]?=some c/\d=jw st c:=by
 rw[l8]at h;cases e:R[k]? with
 |none=>rw[e]at h;cases h
 |some c=>rw[e]at h;exact⟨c,rfl,(FF h).symm⟩
theorem Kw {R:List Nat}(f:Nat->Int)(g:Nat->Tr)(h:∀k c,R[k]?=some c->g k=ti (f c)):Tr.ow (((List.range R.length).filter λ_=>true).map g)=aA (R.map f):=by
 rw[aea.mpr λ_ _=>rfl];congr 1;apply OE
 grind
theorem abE {G:Hp}{o0 o2 o3 o4 o5 o6:Option V}{rv:V}{d:Dv}(h:Hv K G d rv):aX K G [none,some (.fz d),none,none,none,none,none] [o0,some rv,o2,o3,o4,o5,o6]:=xi (gh h (nR 'Y'))
theorem aar {G:Hp}{o0 o3 o4 o5 o6:Option V}{rv:V}{d:Dv}{p:Int}(h:Hv K G d rv):aX K G [none,some (.fz d),some (ti p),none,none,none,none] [o0,some rv,some (.int p),o3,o4,o5,o6]:=xi (gh h (gh ⟨rfl,rfl⟩ (nR 'Y')))
theorem zI (u:Nat->Int)(h:b<M):aF ((bC M u).map V.int) (b:Int)=some (.int (u b)):=dh 'J'
theorem EB (u:Nat->Int)(z:Int):((bC M u).map V.int).set b (.int z)=(bC M λy=>if y=b then z else u y).map V.int:=by
 apply OE
 grind
theorem PD (h:own.length=3)(G:Hp)(σ:St)(p:k7 K C st ρ G σ):gW K C st 3 G (mL own [0] σ):=by
 obtain⟨⟨m,h1,h2⟩,_⟩:_:=p;refine⟨m,?_,h2⟩;unfold mL;rw[wb (by rw[aa,h];exact br _),aa,h];show some ((σ[0]?).join)=_;rw[h1];rfl
theorem QB {dd:List Dv}(m:Str)(hm:[("orders":Str), "owned", "spare", "got", "wanted"].contains m=false)(G:Hp)(σ:St)(h:gW K C st 3 G σ):∃a dx fs,σ[3]?=some (some (.ref a))/\G a=some (.ins C dx fs)/\fs.lookup m=none/\Th K C st G a:=by
 obtain⟨a,h1,h⟩:_:=h;obtain⟨dx,v1,v2,v3,v4,v5,h0,_⟩:_:=id h;refine⟨a,dx,_,h1,h0,?_,h⟩;simp only[afH,afj]at hm;simp[LG,hm]
theorem adx (G:Hp)(σ:St)(h:gW K C st 3 G σ):∃m dx fs v,σ[3]?=some (some (.ref m))/\G m=some (.ins C dx fs)/\fs.lookup ("wanted":Str)=some v/\Hv K G (dis (bC st.A st.s.wn)) v:=by
 obtain⟨a,e,dx,v1,v2,v3,v4,v5,h0,h1,h2,h3,h4,h5⟩:_:=h;exact⟨a,dx,_,v5,e,h0,rfl,h5⟩
theorem YQ {f fr fs fl:adV}{fd fdr fds RW:FuncData}{k j1 j2 j3:Nat}{C:adV}(F:fE K "trade" "Market.trade" yF .none f fd)(T:Txt mg)(U:k6 K C)(EC:Km P w K mg base C "ring" j1 fr fdr ["self"] (Pz K C))(rO:Km P w K mg base C "source" j2 fs fds ["self", "one", "giver"] (FC K C))(DF:Km P w K mg base C "leave" j3 fl RW ["self", "asker"] (QA K C))(l1:j1<=k)(l2:j2<=k)(fk:j3<=k):bS P w K mg base bx (k+1) f fd ["self"] (PC K C):=by
 refine F.ok ke (λvs H Q E h=>by obtain⟨_,_,_,_,_,_,_,_,_,_,_,h1,_⟩:=h;rw[h1];rfl) λaN A outer s H vs Q E hr h=>?_
 obtain⟨G,m,st,dx,v1,o2,l3,o4,l5,r2,r4,rfl,sm,M,go,hw,kv⟩:=h;obtain⟨hA,hM,ok,B,cnt,sh,Gn,n,iv,hn,hc⟩:=id go;have big:=cw;refine⟨_,dr (iq (i:=1) ke.nd rfl (Or.inl rfl) (Cw (pv 0) U.cl EC.m EC.ok (hr.mono l1) EC.b .nil m8))
  (dr (iq (i:=2) ke.nd rfl (Or.inl rfl) (dR (F:=R5 P w K mg base f k) ⟨aN,A,outer,s,H,E,hr⟩))
  (dr (iq (i:=2) ke.nd rfl (Or.inl rfl) (dR (F:=R5 P w K mg base f k) ⟨aN,A,outer,s,H,E,hr⟩))
  (dr (DJ aeL rfl (yq (pv 1)) (yJ rfl (j8 (jJ (i:=3) ke.nd rfl (Or.inl rfl)) (j8 (jJ (i:=4) ke.nd rfl (Or.inl rfl)) (j8 (jJ (i:=5) ke.nd rfl (Or.inl rfl)) yp))))
   (dr (iq (i:=6) ke.nd rfl (Or.inl rfl) (C4 (pv 0) U.cl rO.m rO.ok (hr.mono l2) rO.b .nil m8 (cm (pv 4) (cm (pv 5) cR))))
   (dr (so (sQ yK (ku mJ (pv 6) (pv 4) (λ_ _=>rfl)) (pv 2)) (nZ (pv 6) (pv 4) set_list))
   (dr (so (sQ MF (ku mJ (ku mJ (mV (pv 0) rfl) (pv 3) (λ_ _=>rfl)) (pv 4) (λ_ _=>rfl)) (pv 2)) (nZ (ku mJ (mV (pv 0) rfl) (pv 3) (λ_ _=>rfl)) (pv 4) set_list))
   (gG (so (sQ yK (ku mJ (mV (pv 0) rfl) (pv 3) (λ_ _=>rfl)) (pv 2)) (nZ (mV (pv 0) rfl) (pv 3) set_list)))))))
  (gG (DJ aeL rfl (yq (pv 1)) (yJ rfl (j8 (jJ (i:=3) ke.nd rfl (Or.inl rfl)) (j8 (jJ (i:=4) ke.nd rfl (Or.inl rfl)) (j8 (jJ (i:=5) ke.nd rfl (Or.inl rfl)) yp))))
   (gG (zo (C3 zp (ku mJ (mV (pv 0) rfl) (pv 3) (λ_ _=>rfl)) MA (fN _)) (gG (lr (C4 (pv 0) U.cl DF.m DF.ok (hr.mono fk) DF.b .nil m8 (cm (pv 3) cR)))) C2))))))),?_⟩
 show eQ (lM _ _) _ _ [some (.ref m),none,none,none,none,none,none] H;have FS:=M.there;refine⟨_,rfl,m,dx,_,rfl,M.i,rfl,cD G H (mF m o2 l3 o4 l5 r2 r4),m,st,rfl,gk sm,M.th,go,hw,λG1 H1 rl rv s1 rn R6 R7=>?_⟩;have M1:=M.look s1;have e1:=ux M.g s1;have rlF:rl∉mF m o2 l3 o4 l5 r2 r4:=λz=>by
  obtain⟨o,ho⟩:=FS rl z;rw[rn]at ho;cases ho
 have Ic:=R7.fL FS;have tq:fL G1 (mF m o2 l3 o4 l5 r2 r4) rl=some (.lst rv):=by rw[nX rlF];exact R6
 generalize fL G1 (mF m o2 l3 o4 l5 r2 r4)=G2 at M1 e1 Ic tq;have hR:Hv K G2 (.lst ((bE st).map (jw st))) (.ref rl):=⟨rl,rv,rfl,aM.of tq,Ic.HU⟩
 clear s1 R6 R7;dsimp only[eJ,eQ,List.set];obtain⟨rm,HS⟩:=CW go hw;have bo:=λc (cP:c∈bE st)=>(af.rZ ok iv hn hc (rm c cP).1 (rm c cP).2).1
 have no:=λc (cP:c∈bE st)=>(af.zE ok iv hn hc (rm c cP).1 (rm c cP).2).1
 have adW:(bE st).length<=6:=Cs (oi (List.Nodup.sublist (afT _ _) (EA go hw).1.nd) λc hc=>(rm c hc).1) hA;obtain⟨p1,Ht,R8⟩:=CY (l:=(bE st).map λc=>gP st (af.best st.A st.O st.s c) (af.nx st.A st.O st.s c) (af.best st.A st.O st.s c)) (by simpa using HS);obtain⟨p,Aw,oK⟩:=CY (l:=p1::(bE st).map λc=>st.s.wn c) 'Y';have R9:Pa st p:=by
  refine⟨?_,λc cP=>⟨oK _ (.tail _ (i8.mpr ⟨c,cP,rfl⟩)),agb (oK p1 (.head _)) (R8 _ (i8.mpr ⟨c,cP,rfl⟩))⟩⟩;obtain z|z:=ff.mp Aw
  ·obtain⟨c,cP,e⟩:=i8.mp Ht;exact⟨c,cP,.inr (z.trans e.symm)⟩
  ·obtain⟨c,cP,e⟩:=i8.mp z;exact⟨c,cP,.inl e.symm⟩
 have gd:∀(f:Nat->Int) (k c:Nat),(bE st)[k]?=some c->ti (f ((bE st).getD k 0))=ti (f c):=λf k c h=>by rw[ir,h];rfl
 refine sf (Φ:=k7 K C st [none,some (.fz (.lst ((bE st).map (jw st)))),none,none,none,none,none]) (t:=ti p1) (Ku T.Pn (a8.to (va (Ψ:=gW K C st 3) (own:=["asker", "one", "giver"]) (fr:=[0]) (λi=>cv) (uj (Ev.p (by exact ae 1 rfl) pV) rfl) (uU 0 1 2 (λ_=>bT)) 'Q' (λ_=>true) (λk=>ti (gP st (af.best st.A st.O st.s ((bE st).getD k 0)) (af.nx st.A st.O st.s ((bE st).getD k 0)) (af.best st.A st.O st.s ((bE st).getD k 0)))) (by rw[aa];lia) (λG G' σ e ⟨m,h1,h2⟩=>⟨m,h1,h2.mono e⟩) (PD rfl) Mf (λq d hd=>?_)) (by rw[aa];exact Kw (λc=>gP st (af.best st.A st.O st.s c) (af.nx st.A st.O st.s c) (af.best st.A st.O st.s c)) _ (gd λc=>gP st (af.best st.A st.O st.s c) (af.nx st.A st.O st.s c) (af.best st.A st.O st.s c)))) (bP _) ⟨Ht,R8⟩) (gk e1.s) ⟨⟨m,rfl,M1.th⟩,abE (hR.mono (fm M1.g))⟩ λpv1 G3 H3 s3 Sa=>?_
 ·obtain⟨c,qY,rfl⟩:=Mg hd;have cP:=ba qY;refine⟨_,rfl,Dt,λ_=>?_⟩;rw[ir,qY];exact mZ (d:=di (gP st (af.best st.A st.O st.s c) (af.nx st.A st.O st.s c) (af.best st.A st.O st.s c))) AD (yg (C:=C) (st:=st) (dd:=[di (af.best st.A st.O st.s c:Nat),di (af.nx st.A st.O st.s c:Nat)]) 3 U.cl rO.m (acx rO.ok) l2 rO.b (λG σ h=>QB (dd:=[]) "source" 'W' G σ (rN h).2) (λ_ _ _ e t=>t.mono e) (mG AD (Ev.p (ae 1 rfl) λG σ h=>(rN h).1) (mG AD (Ev.p (ae 2 rfl) λG σ h=>(rN h).1) rM)) ⟨_,_,bo c cP,λ_=>no c cP,rfl,rfl⟩ (λi=>pv 3)) (Ev.p (ae 1 rfl) λG σ h=>(rN h).1) rfl (sX _ (bo c cP))
 obtain rfl:pv1=.int p1:=aO Sa;have M3:=M1.keep s3.h;have e3:=e1.trans (nS e1.s s3.h);dsimp only[eJ,eQ,List.set];refine sf (Φ:=k7 K C st [none,some (.fz (.lst ((bE st).map (jw st)))),some (ti p1),none,none,none,none]) (t:=ti p) (Ku (ns:=p1::(bE st).map λc=>st.s.wn c) T.Pn (aaq (xs:=[di p1]) (ys:=((bE st).map λc=>st.s.wn c).map di) sL (Ev.p (t:=.ow [ti p1]) (by exact cf (ag (ae 2 rfl) ak) (by show 1<=sizeLine;lia)) pV) (a8.to (va (Ψ:=gW K C st 3) (own:=["asker", "one", "giver"]) (fr:=[0]) (λi=>cv) (uj (Ev.p (by exact ae 1 rfl) pV) rfl) (uU 0 1 2 (λ_=>bT)) 'Q' (λ_=>true) (λk=>ti (st.s.wn ((bE st).getD k 0))) (by rw[aa];lia) (λG G' σ e ⟨m,h1,h2⟩=>⟨m,h1,h2.mono e⟩) (PD rfl) Mf (λq d hd=>?_)) (by rw[aa];exact Kw (λc=>st.s.wn c) _ (gd λc=>st.s.wn c))) rfl (bP _) (by rw[aa,aa];show 1+_<=sizeLine;lia)) (fP _) ⟨Aw,oK⟩) (gk e3.s) ⟨⟨m,rfl,M3.th⟩,aar (hR.mono (fm M3.g))⟩ λpv2 G4 H4 s4 Sb=>?_
 ·obtain⟨c,qY,rfl⟩:=Mg hd;have cP:=ba qY;refine⟨_,rfl,Dt,λ_=>?_⟩;rw[ir,qY];exact mZ (d:=di (st.s.wn c)) AD (jK (C:=C) (d:=dis (bC st.A st.s.wn)) 3 U.cl U.n5 (λG σ h=>adx G σ (rN h).2) (λi=>pv 3)) (Ev.p (ae 0 rfl) λG σ h=>(rN h).1) rfl (sX _ (rm c cP).1)
 obtain rfl:pv2=.int p:=aO Sb;have M4:=M3.keep s4.h;have e4:=e3.trans (nS e3.s s4.h);clear Sa Sb s3 s4 e3 M3 M1 e1;dsimp only[eJ,eQ,List.set];obtain⟨rg,zH⟩:=PB go hw R9;have X4:Sx G H (mF m o2 l3 o4 l5 r2 r4) G2 H4 (mF m o2 l3 o4 l5 r2 r4):=.step e4;have rws:=id Ic;obtain⟨ps,Ie,psl,Sd⟩:=rws;have QC:rv.length=(bE st).length:=by rw[Ie,aa,psl]
 show vG (sP K (dC 1)) _ _ _ [some (.ref m),some (.ref rl),some (.int p),none,none,none,none] H4;refine JA (j:=1) (a:=rl) (xs:=rv) rfl (aM.of (e4.s _ _ tq)) (λi aD H'=>∃q3 q4 q5 q6,aD=[some (.ref m),some (.ref rl),some (.int p),q3,q4,q5,q6]/\Sx G H (mF m o2 l3 o4 l5 r2 r4) G2 H' (mF m o2 l3 o4 l5 r2 r4)/\Mv K C {st with s:=af.aP st.A st.O st.s ((bE st).take i) p} G2 H' m dx v1 o2 l3 o4 l5 r2 r4) ⟨_,_,_,_,rfl,X4,?_⟩ (λi aD H' _ z=>by obtain⟨_,_,_,_,_,x,_⟩:=z;exact aM.of (x.s _ _ tq)) (λi v aD H' hv z=>?_) (λaD H' z=>?_)
 ·have:af.aP st.A st.O st.s ((bE st).take 0) p=st.s:=by
   rw[ae4];unfold af.aP;simp only[af.NI,Int.mul_zero,Int.sub_zero,Int.add_zero]
  rw[this];exact M4
 ·obtain⟨q3,q4,q5,q6,rfl,X,Mi⟩:=z;rw[Ie,l8]at hv;cases ev:ps[i]? with
  |none=>rw[ev]at hv;cases hv
  |some ta=>
  rw[ev]at hv;cases hv;obtain⟨_,c,hi,Ig⟩:_:=Sd i ta ev;have cP:=ba hi;have hb:=bo c cP;have hg:=no c cP;have tX:=(rm c cP).1;have Ih:=abD rg hi;have et:=YN (A:=st.A) (O:=st.O) (s:=st.s) (p:=p) hi;generalize af.aP st.A st.O st.s ((bE st).take i) p=si at Mi Ih et;generalize wm:af.best st.A st.O st.s c=b at *;generalize hgg:af.nx st.A st.O st.s c=g at *;refine⟨ta,_,rfl,cS.of (X.s _ _ Ig),rfl,_,_,rfl,_,_,rfl,_,_,rfl,rfl,?_⟩;have src:∃(a:adV) (u:Nat->Int),(0<si.sp b->V.ref a=.ref l3)/\(¬0<si.sp b->(r2.map V.ref)[g]?=some (.ref a))/\H' a=some (cU st.M u)/\a∈mF m o2 l3 o4 l5 r2 r4/\∀H5,aj H' H5->Mv K C {st with s:={si with own:=λg' x=>si.own g' x-(if g=g'/\b=x/\¬0<st.s.sp x then p else 0),sp:=λx=>si.sp x-(if b=x/\0<st.s.sp x then p else 0)}} G2 (upd H5 a (cU st.M λy=>if y=b then u b-p else u y)) m dx v1 o2 l3 o4 l5 r2 r4:=by
   by_cases hs : 0<st.s.sp b
   ·refine⟨l3,si.sp,λ_=>rfl,λz=>absurd (Ih▸hs) z,Mi.h3,Mv.m3,λH5 s5=>?_⟩;have h1:(λg' x=>si.own g' x-(if g=g'/\b=x/\¬0<st.s.sp x then p else 0))=si.own:=by
     funext g' x
     rw[rf λz=>z.2.2 (z.2.1▸hs)];lia
    have h2:(λx=>si.sp x-(if b=x/\0<st.s.sp x then p else 0))=λy=>if y=b then si.sp b-p else si.sp y:=by
     funext x
     by_cases z:x=b
     ·subst z;rw[uu ⟨rfl,hs⟩,uu rfl]
     ·rw[rf z,rf λy=>z y.1.symm];lia
    rw[h1,h2];exact(Mi.keep s5).adq _
   ·have hga:g<r2.length:=by rw[Mi.n2];exact hg
    have ha:r2[g]?=some r2[g]:=ab hga;refine⟨r2[g],si.own g,λz=>absurd (Ih▸z) hs,λ_=>by rw[l8,ha];rfl,Mi.e2 g _ ha,Mv.mr ha,λH5 s5=>?_⟩;have h1:(λg' x=>si.own g' x-(if g=g'/\b=x/\¬0<st.s.sp x then p else 0))=λd=>if d=g then (λy=>if y=b then si.own g b-p else si.own g y)else si.own d:=by
     funext g' x
     by_cases z:g'=g
     ·subst z;rw[uu rfl];by_cases y:x=b
      ·subst y;rw[uu ⟨rfl,rfl,hs⟩,uu rfl]
      ·rw[rf y,rf λq=>y q.2.1.symm];lia
     ·rw[rf z,rf λq=>z q.1.symm];lia
    have h2:(λx=>si.sp x-(if b=x/\0<st.s.sp x then p else 0))=si.sp:=by
     funext x
     rw[rf λ(z:b=x/\0<st.s.sp x)=>hs (by rw[z.1];exact z.2)];lia
    rw[h1,h2];exact(Mi.keep s5).adt ha _
  obtain⟨a,u,c1,c2,ha,Se,put⟩:_:=src;refine⟨_,rfl,m,dx,_,rfl,Mi.i,rfl,_,rfl,_,rfl,cD G2 H' (mF m o2 l3 o4 l5 r2 r4),m,b,g,_,.ref a,rfl,gk X.s,Mi.th,hb,⟨dx,v1,o2,r2.map V.ref,.ref l3,.ref o4,.ref l5,by rw[du Mv.m1];exact Mi.i,aM.of (by rw[du Mv.m2];exact Mi.h2),c1,c2⟩,λH5 s5=>?_⟩;dsimp only[eJ,eQ,List.set];have M5:=put H5 s5;have x5:Sx G H (mF m o2 l3 o4 l5 r2 r4) G2 H5 (mF m o2 l3 o4 l5 r2 r4):=X.trans (.step (nS X.s s5));have x6:Sx G H (mF m o2 l3 o4 l5 r2 r4) G2 (upd H5 a (cU st.M λy=>if y=b then u b-p else u y)) (mF m o2 l3 o4 l5 r2 r4):=x5.trans (.put x5.s Se (Mi.g a Se));refine⟨_,rfl,_,rfl,a,_,b,_,rfl,rfl,aM.of (s5 _ _ ha),zI _ hb,_,rfl,u b,p,rfl,rfl,_,rfl,_,rfl,a,_,b,b,rfl,rfl,s5 _ _ ha,yC (by rw[aa,aa,vc];exact hb),?_⟩;rw[EB];generalize upd H5 a (cU st.M λy=>if y=b then u b-p else u y)=H6 at M5 x6;have hca:c<r4.length:=by rw[M5.n4];exact tX
  have rj:r4[c]?=some r4[c]:=ab hca;generalize r4[c]=a4 at rj;have Sf:aF (r4.map V.ref) (c:Int)=some (.ref a4):=dh (by rw[l8,rj];rfl);refine⟨_,rfl,m,C,dx,_,.ref o4,rfl,M5.i,U.cl,U.n4,rfl,_,rfl,o4,_,c,.ref a4,rfl,rfl,aM.of M5.h4,Sf,_,rfl,a4,_,b,_,rfl,rfl,aM.of (M5.e4 c a4 rj),zI _ hb,_,rfl,_,p,rfl,rfl,_,rfl,m,C,dx,_,.ref o4,rfl,M5.i,U.cl,U.n4,rfl,_,rfl,o4,_,c,.ref a4,rfl,rfl,aM.of M5.h4,Sf,_,rfl,a4,_,b,b,rfl,rfl,M5.e4 c a4 rj,yC (by rw[aa,aa,vc];exact hb),?_⟩;rw[EB];have M7:=M5.adu rj λy=>if y=b then si.got c b+p else si.got c y
  have x7:=x6.trans (.put (o:=cU st.M λy=>if y=b then si.got c b+p else si.got c y) x6.s (Mv.mt rj) (M5.g _ (Mv.mt rj)));generalize upd H6 a4 (cU st.M λy=>if y=b then si.got c b+p else si.got c y)=H7 at M7 x7;refine⟨_,rfl,m,C,dx,_,.ref l5,rfl,M7.i,U.cl,U.n5,rfl,_,rfl,l5,_,c,_,rfl,rfl,aM.of M7.h5,zI _ tX,_,rfl,_,p,rfl,rfl,_,rfl,m,C,dx,_,.ref l5,rfl,M7.i,U.cl,U.n5,rfl,_,rfl,l5,_,c,c,rfl,rfl,M7.h5,yC (by rw[aa,aa,vc];exact tX),?_⟩;rw[EB];have M8:=M7.ads λy=>if y=c then si.wn c-p else si.wn y
  have x8:=x7.trans (.put (o:=cU st.A λy=>if y=c then si.wn c-p else si.wn y) x7.s Mv.m5 (M7.g _ Mv.m5));refine⟨_,_,_,_,rfl,x8,?_⟩;rw[et];have h3:(λa x=>si.got a x+(if c=a/\b=x then p else 0))=λd=>if d=c then (λy=>if y=b then si.got c b+p else si.got c y)else si.got d:=by
   funext a x
   by_cases z:a=c
   ·subst z;rw[uu rfl];by_cases y:x=b
    ·subst y;rw[uu ⟨rfl,rfl⟩,uu rfl]
    ·rw[rf y,rf λq=>y q.2.symm];lia
   ·rw[rf z,rf λq=>z q.1.symm];lia
  have h4:(λa=>si.wn a-(if c=a then p else 0))=λy=>if y=c then si.wn c-p else si.wn y:=by
   funext a
   by_cases z:a=c
   ·subst z;rw[uu rfl,uu rfl]
   ·rw[rf z,rf λq=>z q.symm];lia
  rw[h3,h4];exact M8
 ·obtain⟨q3,q4,q5,q6,rfl,X,Mi⟩:_:=z;rw[QC,aef]at Mi;have fin:∀G' H' fk gi,Sx G H (mF m o2 l3 o4 l5 r2 r4) G' H' (mF m o2 fk o4 l5 gi r4)->Mv K C {st with s:=((bE st).filter λa=>decide ((af.aP st.A st.O st.s (bE st) p).wn a=0)).foldl af.lv (af.aP st.A st.O st.s (bE st) p)} G' H' m dx v1 o2 fk o4 l5 gi r4->Q .aW H':=λG' H' fk gi x M=>kv G' H' fk gi p x R9 M
  generalize af.aP st.A st.O st.s (bE st) p=sT at Mi fin;show vG (sP K (dC 1)) _ _ _ [some (.ref m),some (.ref rl),some (.int p),q3,q4,q5,q6] H';refine JA (j:=1) (a:=rl) (xs:=rv) rfl (aM.of (X.s _ _ tq)) (λi aD H'=>∃G3 q3 q4 q5 q6 fk gi,aD=[some (.ref m),some (.ref rl),some (.int p),q3,q4,q5,q6]/\aj G2 G3/\Sx G H (mF m o2 l3 o4 l5 r2 r4) G3 H' (mF m o2 fk o4 l5 gi r4)/\Mv K C {st with s:=(((bE st).take i).filter λa=>decide (sT.wn a=0)).foldl af.lv sT} G3 H' m dx v1 o2 fk o4 l5 gi r4) ⟨G2,_,_,_,_,l3,r2,rfl,aj.refl _,X,Mi⟩ (λi aD H' _ z=>by obtain⟨G3,_,_,_,_,_,_,_,sg,x,_⟩:_:=z;exact aM.of (x.s _ _ (sg _ _ tq))) (λi v aD H' hv z=>?_) (λaD H' z=>?_)
  ·obtain⟨G3,q3,q4,q5,q6,fk,gi,rfl,sg,X,Mi⟩:_:=z;rw[Ie,l8]at hv;cases ev:ps[i]? with
   |none=>rw[ev]at hv;cases hv
   |some ta=>
   rw[ev]at hv;cases hv;obtain⟨_,c,hi,Ig⟩:_:=Sd i ta ev;have cP:=ba hi;have tX:=(rm c cP).1;have wne:∀(L:List Nat) (s:af.St),(L.foldl af.lv s).wn=s.wn:=λL=>by
    induction L with
    |nil=>exact λs=>rfl
    |cons a L ih=>exact λs=>ih (af.lv s a)
   have Sg:=wne (((bE st).take i).filter λa=>decide (sT.wn a=0)) sT;have etk:(((bE st).take (i+1)).filter λa=>decide (sT.wn a=0)).foldl af.lv sT=if sT.wn c=0 then af.lv ((((bE st).take i).filter λa=>decide (sT.wn a=0)).foldl af.lv sT) c else (((bE st).take i).filter λa=>decide (sT.wn a=0)).foldl af.lv sT:=by
    rw[take_snoc hi,aej,List.foldl_append];by_cases z:sT.wn c=0
    ·rw[uu z,List.filter_cons_of_pos (p:=λa=>decide (sT.wn a=0)) (EO z)];rfl
    ·rw[rf z,List.filter_cons_of_neg (p:=λa=>decide (sT.wn a=0)) (by rw[LF z];decide)];rfl
   rw[etk];generalize (((bE st).take i).filter λa=>decide (sT.wn a=0)).foldl af.lv sT=si at Mi Sg;refine⟨ta,_,rfl,cS.of (X.s _ _ (sg _ _ Ig)),rfl,_,_,rfl,_,_,rfl,_,_,rfl,rfl,?_⟩;refine⟨_,rfl,m,C,dx,_,.ref l5,rfl,Mi.i,U.cl,U.n5,rfl,_,rfl,l5,_,c,_,rfl,rfl,aM.of Mi.h5,zI _ tX,rfl,_,rfl,?_⟩;dsimp only;rw[Sg];by_cases z:sT.wn c=0
   ·rw[uu (by rw[z];exact EO rfl),uu z];refine⟨_,rfl,m,dx,_,rfl,Mi.i,rfl,_,rfl,G3,m,c,_,dx,v1,o2,fk,o4,l5,gi,r4,rfl,X.s,Mi,tX,hM,λG' H'' ady adz sx Mn=>?_⟩;exact⟨G',_,_,_,_,ady,adz,rfl,sg.trans sx.g,X.trans sx,Mn⟩
   ·rw[rf (λy=>z (V.int.inj (GS y))),rf z];exact⟨G3,_,_,_,_,fk,gi,rfl,sg,X,Mi⟩
  ·obtain⟨G3,q3,q4,q5,q6,fk,gi,rfl,sg,X,Mi⟩:_:=z;rw[QC,aef]at Mi;exact fin _ _ _ _ X Mi
end
section
abbrev A2:age:=top 13
theorem xF:aY ["some", "least", "one"] ["some"] (az A2):=sk
def Gu (bs:LI):Prop:=∃M:Int,0<M/\M<2^4000/\∀b∈bs,0<b/\b∣M
theorem Gu.lc (h:Gu bs)(j:Nat) : 0<iJ 1 (bs.take j)/\(iJ 1 (bs.take j)).natAbs<2^4000:=by
 obtain⟨M,h1,h2,h3⟩:_:=h;have hp:∀b∈bs.take j,0<b:=λb hb=>(h3 b (EN hb)).1
 have p:=yx (m:=1) 'Q' hp;have d:=xT 'Q' hp ⟨M,(Int.one_mul M).symm⟩ λb hb=>(h3 b (EN hb)).2
 have:=afk h1 d;lia
def AF (p:Int×Int):Dv:=.tup [di p.1,di p.2]
def Mh:bG:=λdd t=>∃fs:List (Int×Int),Gu (fs.map (·.2))/\dd=[.lst (fs.map AF)]/\t=ti (iJ 1 (fs.map (·.2)))
theorem Ug (F:bN K "common_bottom" A2 f fd)(T:Txt mg)(Be:a9 P w K mg base k "common_part" f1 cG ["one", "other"] Ft):bM P w K mg base (k+1) f fd ["some"] Mh:=by
 refine bR F.d xF 'H' λdd t h=>?_
 obtain⟨fs,hb,rfl,rfl⟩:=h;refine aq (aT 1 (Ev.s ai) (λ_=>xF.nd)) ?_;refine aq (dY (bb.s (cy (ae 0 rfl) rfl)) (bu 2 (λ_=>xF.nd)) (λk=>[some (.fz (.lst (fs.map AF))),some (ti (iJ 1 ((fs.map (·.2)).take k))),none]) rfl (λ_=>rfl) (λj d hd=>?_)) ?_
 ·obtain⟨⟨p,b⟩,hf,rfl⟩:=gn hd;obtain⟨l1,l2⟩:=hb.lc j;have Sh:(fs.map (·.2))[j]?=some b:='J'
  have tJ : 0<b/\b.natAbs<2^4000:=by
   obtain⟨M,h1,h2,h3⟩:=hb;obtain⟨q1,q2⟩:=h3 b (ba Sh);have:=afk h1 q2;lia
  have g0:=sE (a:=iJ 1 ((fs.map (·.2)).take j)) (b:=b) 'Z';have g1:=Dc (a:=iJ 1 ((fs.map (·.2)).take j)) tJ.1;refine⟨_,_,rfl,ay (aT 1 (Ev.s (iu (km (ae 1 rfl) (bF (ae 2 rfl) ai rfl rfl) ⟨D0 l2,D0 tJ.2⟩) (aU Be (br _) (ag (ae 1 rfl) (ag (bF (ae 2 rfl) ai rfl rfl) ak)) ⟨_,b,'O','Z',rfl,rfl⟩) ⟨g0,D0 'Z'⟩)) (λ_=>xF.nd)),[2],?_⟩;rw[kc Sh,Wb]
  rfl
 ·rw[aa,List.take_of_length_le 'J'];exact ay (cu (Ev.s (ae 1 rfl)))
abbrev BW:age:=top 15
theorem VX:aY ["one", "bottom"] ["one", "bottom"] (az BW):=sk
def Ot:bG:=λdd t=>∃(p b m:Int),0<b/\b.natAbs<2^8000/\p.natAbs<2^8000/\(m/b).natAbs<2^8000/\dd=[AF (p,b),di m]/\t=ti (p*(m/b))
theorem VY (F:bN K "parts_of" BW f fd)(T:Txt mg):bM P w K mg base k f fd ["one", "bottom"] Ot:=by
 refine bR F.d VX 'H' λdd t h=>?_
 obtain⟨p,b,m,h1,h2,h3,h4,rfl,rfl⟩:_:=h;exact ay (cu (Ev.s (km (bF (ae 0 rfl) ai rfl rfl) (iu (ae 1 rfl) (bF (ae 0 rfl) ai rfl rfl) ⟨h1,h2⟩) ⟨h3,h4⟩)))
theorem Ou (w0 : 0<W):(fW W s).2∣W:=by
 have cr:=jb (s:=s) w0;have co:=abe (s:=s) w0;generalize (fW W s).1=p at cr co;generalize (fW W s).2=q at cr co ⊢;have h1:q.natAbs∣p.natAbs*W.natAbs:=by
  rw[<- aex,cr,aex];exact Nat.dvd_mul_left _ _
 have h2:Nat.Coprime q.natAbs p.natAbs:=by
  show Nat.gcd _ _=1;rw[Nat.gcd_comm];exact co
 exact adY.mp (h2.dvd_of_dvd_mul_left h1)
def nu (W:Int)(r:LI):Int:=iJ 1 (r.map λs=>(fW W s).2)
def vR (W:Int)(rows:LL):Int:=iJ 1 (rows.map (nu W))
theorem uN (w0 : 0<W)(r:LI) : 0<nu W r/\nu W r∣W/\∀s∈r,(fW W s).2∣nu W r:=by
 have hp:∀b∈r.map λs=>(fW W s).2,0<b:=λb hb=>by
  obtain⟨s,_,rfl⟩:_:=i8.mp hb;exact gq w0
 refine⟨yx 'Q' hp,xT 'Q' hp ⟨W,(Int.one_mul W).symm⟩ λb hb=>?_,λs hs=>(De 'Q' hp).2 _ (i8.mpr ⟨s,hs,rfl⟩)⟩
 grind [Ou]
theorem aas (w0 : 0<W)(rows:LL) : 0<vR W rows/\vR W rows∣W/\∀r∈rows,∀s∈r,(fW W s).2∣vR W rows:=by
 have hp:∀b∈rows.map (nu W),0<b:=λb hb=>by
  obtain⟨r,_,rfl⟩:_:=i8.mp hb;exact(uN w0 r).1
 refine⟨yx 'Q' hp,xT 'Q' hp ⟨W,(Int.one_mul W).symm⟩ λb hb=>?_,λr hr s hs=>Int.dvd_trans ((uN w0 r).2.2 s hs) ((De 'Q' hp).2 _ (i8.mpr ⟨r,hr,rfl⟩))⟩
 grind [uN]
theorem Ov {W:Int}(w1:W<2^70):W<2^4000:=by
 omega
abbrev A3:age:=top 14
theorem Uh:aY ["rows"] ["rows"] (az A3):=sk
def Mj:bG:=λdd t=>∃(W:Int) (rows:LL),0<W/\W<2^70/\rows.length<=20/\dd=[.lst (rows.map (dD W))]/\t=ti (vR W rows)
theorem Ui (F:bN K "bottom_of_all" A3 f fd)(T:Txt mg)(IV:a9 P w K mg base (k+1) "common_bottom" f1 cG ["some"] Mh):bM P w K mg base (k+2) f fd ["rows"] Mj:=by
 refine bR F.d Uh 'H' λdd t h=>?_
 obtain⟨W,rows,w0,w1,hl,rfl,rfl⟩:=h;have big:=cw;have er1:er (.ow (rows.map λr=>Tr.tp [ti 1,ti (nu W r)]))=.lst ((rows.map λr=>((1),nu W r)).map AF):=by rw[fu,i4];rfl
 refine ay (cu (Ev.s (aU IV (br _) (ag (Ev.as (fQ (own:=["row"]) (fr:=[]) rows (dD W) (λr=>Tr.tp [ti 1,ti (nu W r)]) (λi=>cv) (cy (ae 0 rfl) rfl) (bu 0 (λ_=>bT)) 'Q' 'O' (λr hr=>⟨_,rfl,pI (ag ai (ag (aU IV (br _) (ag (ae 0 rfl) ak) ⟨r.map (fW W),⟨W,w0,Ov w1,λb hb=>by
   rw[i4]at hb;obtain⟨s,_,rfl⟩:=i8.mp hb;exact⟨gq w0,Ou w0⟩⟩,rfl,by rw[i4];rfl⟩) ak)) (by show 2<=sizeLine;decide)⟩) (λdd=>by cases dd<;>rfl)) er1) ak) ⟨rows.map λr=>((1),nu W r),⟨W,w0,Ov w1,λb hb=>?_⟩,rfl,?_⟩)))
 ·rw[i4]at hb;obtain⟨r,_,rfl⟩:=i8.mp hb;exact⟨(uN w0 r).1,(uN w0 r).2.1⟩
 ·rw[i4];rfl
def oR (W B s:Int):Int:=(fW W s).1*(B/(fW W s).2)
theorem abF (w0 : 0<W)(hd:(fW W s).2∣B):oR W B s*W=s*B:=by
 have cr:=jb (s:=s) w0;have q0:=gq (s:=s) w0;unfold oR;obtain⟨m,rfl⟩:=hd;rw[Int.mul_ediv_cancel_left _ 'O',Int.mul_right_comm,cr,Int.mul_assoc]
end
section
theorem FE {F:aS ι}(h:Ev F e ρ t)(s:aj G H)(f:aX F.K G ρ σ)(k:Kv F.K G H t Q):uE F e σ H Q:=by obtain⟨τ,p,q⟩:=h;exact⟨τ,p,q σ G H Q s f k⟩
theorem bb.p {F:aS ι}(h:bb F tg iter ρ its)(w:∀G σ,Φ G σ->aX F.K G ρ σ):tf F Φ tg iter its:=by obtain⟨wi,p,q⟩:=h;exact⟨wi,p,λσ G H R s f k=>q σ G H R s (w G σ f) k⟩
theorem aau {F:aS ι}(mo:Mo Φ)(ha:a8 F Φ a (ti i))(hb:a8 F Φ b (ti j)):a8 F Φ (.BinOp a .Sub b pos) (ti (i-j)):=LQ mo (λ_=>yK) ha hb λG H x y Q s hx hy k=>⟨i,j,aO hx,aO hy,k.sc s rfl⟩
theorem aav {F:aS ι}{pos:Pos}(hm:F.mg "sum"=none)(ha:a8 F Φ e ta)(ea:er ta=dis ns){p':Pos}(hg:∀i,Gl (F.cx i) "sum":=by intro _;rfl)(hs:∀i,starEach [e] (F.cx i).env=[(false,eval e (F.cx i).env)]:=by intro _;rfl):a8 F Φ (.Call (.Name "sum" p') [e] [] pos) (ti ns.sum):=
 JP (λi=>F.hK i▸JX (F.calm i)) hm MS (BF ha hs) (λG H vs Q s hx k=>by
  obtain⟨x,rfl,dE⟩:=iA hx
  replace hx:=dE
  rw[ea]at hx;obtain⟨l,ys,rfl,h1,h2⟩:=hx;have:=mH h2;subst this;exact⟨l,ns,rfl,s.seq h1,k.sc s rfl⟩) hg 'Q' 'Q' hs (λ_=>rfl)
theorem Kx:∀{ls:LL} {vs:List V} {fq:List adV},aV K G H (ls.map aA) vs fq->vs=fq.map V.ref/\fq.length=ls.length/\∀(i:Nat) a,fq[i]?=some a->∃l,ls[i]?=some l/\H a=some (.lst (l.map V.int))
 |[],_,_,z9=>by obtain⟨h1,h2⟩:=z9;subst h1 h2;exact⟨rfl,rfl,λi a h=>by cases h⟩
 |l::ls,_,_,z9=>by
  obtain⟨v,r,f1,f2,h1,h2,h3,h4⟩:=z9;obtain⟨e1,e2,e3⟩:_:=Kx h4;obtain⟨p,q1,q2,q3⟩:_:=vz h3;subst h1 h2 e1 q1 q3;refine⟨rfl,by show f2.length+1=ls.length+1;rw[e2],λi a hi=>?_⟩;cases i with
  |zero=>cases hi;exact⟨l,rfl,q2⟩
  |succ i=>exact e3 i a hi
theorem Ml {f:Nat->Nat->Int}(h:Ow K G H (.ow ((List.range A).map λa=>aA (bC M (f a)))) v fq):∃o r,v=.ref o/\fq=o::r/\H o=some (.lst (r.map V.ref))/\r.length=A/\∀(i:Nat) a,r[i]?=some a->H a=some (cU M (f i)):=by
 obtain⟨o,vs,r,rfl,h1,h2,rfl⟩:_:=h;have e:((List.range A).map λa=>aA (bC M (f a)))=((List.range A).map λa=>bC M (f a)).map aA:=by rw[i4];rfl
 rw[e]at h2;obtain⟨rfl,e2,e3⟩:_:=Kx h2;refine⟨o,r,rfl,rfl,h1,by rw[e2,aa,vc],λi a hi=>?_⟩;obtain⟨l,hl,e4⟩:=e3 i a hi;rw[l8]at hl;obtain z|z:=EM i A
 ·rw[IF z]at hl;cases hl;exact e4
 ·rw[Mc (by rw[vc];exact z)]at hl;cases hl
def fG (c:LI)(A x:Nat):Int:=(c++[(A:Int)]).getD x 0
def cV (W B:Int)(S:Nat->LI)(a x:Nat):Int:=oR W B ((S a).getD x 0)
def iX (c:LI)(os:LL)(a:Nat):List Nat:=(aG c.length (os.getD a [])).map Int.toNat
def xt (c:LI)(os:LL)(W B:Int)(S:Nat->LI):Ms:=⟨os.length,c.length+1,iX c os,af.qZ os.length B (fG c os.length) (cV W B S)⟩
theorem Mm (l:LI)(h:l.length=n):bC n (λx=>l.getD x 0)=l:=by
 apply OE
 grind
theorem abG (l:LI)(h:l.length=n)(f:Int->Int):bC n (λx=>f (l.getD x 0))=l.map f:=by
 rw[<- Mm l h,show bC n (λx=>f ((bC n λx=>l.getD x 0).getD x 0))=bC n λx=>f (l.getD x 0) by simp_all]
 simp_all
abbrev Si:List Str:=["self", "table", "shares", "bottom", "supply"]
abbrev zh:age:=nQ 0
theorem Mp:aY Si ["self", "table", "shares", "bottom"] (az zh):=sk
abbrev tY (P:agc)(w:agd)(K:Frag)(mg:Str->Option vn)(base:Heap)(f:adV)(k:Nat):=jv P w K mg base Si "Market.__init__" (az zh) f k
structure Shs (c:LI) (os:LL) (W B:Int) (S:Nat->LI):Prop where
 ok:eK c os
 w0 : 0<W
 w1:W<2^70
 bO:∀a,a<os.length->fD W c.length (S a)
 b0 : 0<B
 b1:B<2^70
def PF (K:Frag)(C:adV):Sp:=λvs H Q _=>∃(G:Hp) (m dx:adV) (tv sv:V) (c:LI) (os:LL) (W B:Int) (S:Nat->LI),vs=[.ref m,tv,sv,.int B]/\aj G H/\H m=some (.ins C dx [])/\G m=none/\Hv K G (fF c os) tv/\Hv K G (bA W os.length S) sv/\Shs c os W B S /\
 ∀G' H' v1 o2 l3 o4 l5 r2 r4,Sx G H [m] G' H' (mF m o2 l3 o4 l5 r2 r4)->Mv K C (xt c os W B S) G' H' m dx v1 o2 l3 o4 l5 r2 r4->Q .aW H'
section
abbrev rI (c:LI)(os:LL)(W B:Int)(S:Nat->LI)(d:Option Tr):En:=[none,some (.fz (fF c os)),some (.fz (bA W os.length S)),some (ti B),d]
abbrev adA (c:LI)(os:LL):Dv:=dis (c++[(os.length:Int)])
end
theorem abH {G:Hp}{o0:Option V}{o4:Option V}{tv sv:V}{d1 d2:Dv}{B:Int}(h1:Hv K G d1 tv)(h2:Hv K G d2 sv):aX K G [none,some (.fz d1),some (.fz d2),some (ti B),none] [o0,some tv,some sv,some (.int B),o4]:=xi (gh h1 (gh h2 (gh ⟨rfl,rfl⟩ (nR 'Y'))))
theorem uO {G:Hp}{o0:Option V}{tv sv wv:V}{d1 d2 d3:Dv}{B:Int}(h1:Hv K G d1 tv)(h2:Hv K G d2 sv)(h3:Hv K G d3 wv):aX K G [none,some (.fz d1),some (.fz d2),some (ti B),some (.fz d3)] [o0,some tv,some sv,some (.int B),some wv]:=xi (gh h1 (gh h2 (gh ⟨rfl,rfl⟩ (gh h3 (nR 'Y')))))
abbrev vS (K:Frag)(C:adV)(d:Dv)(j:Nat)(G:Hp)(σ:St):Prop:=∃m dx fs v,σ[j]?=some (some (.ref m))/\G m=some (.ins C dx fs)/\fs.lookup ("owned":Str)=some v/\Hv K G d v
theorem Ox (e:aj G G')(h:vS K C d j G σ):vS K C d j G' σ:=by obtain⟨m,dx,fs,v,h1,h2,h3,h4⟩:_:=h;exact⟨m,dx,fs,v,h1,e _ _ h2,h3,h4.mono e⟩
abbrev PhI (K:Frag)(C:adV)(d:Dv)(ρ:En):Hp->St->Prop:=λG σ => vS K C d 0 G σ/\aX K G ρ σ
abbrev xu (K:Frag)(C:adV)(d:Dv)(B:Int):Hp->St->Prop:=λG σ => vS K C d 3 G σ/\σ[2]?=some (some (.int B))
theorem Mq (G:Hp)(σ:St)(vs:List V)(h:xu K C d B G σ):xu K C d B G (a7 [0,1] vs σ):=by
 obtain⟨⟨m,dx,fs,v,h1,h2⟩,h3⟩:_:=h;obtain _|⟨x,_|⟨y,r⟩⟩:=vs
 ·exact⟨⟨m,dx,fs,v,h1,h2⟩,h3⟩
 ·refine⟨⟨m,dx,fs,v,?_,h2⟩,?_⟩
  ·show(σ.set 0 _)[3]?=_
   simp_all
  ·show(σ.set 0 _)[2]?=_
   simp_all
 ·refine⟨⟨m,dx,fs,v,?_,h2⟩,?_⟩
  ·show((σ.set 0 _).set 1 _)[3]?=_
   simp_all
  ·show((σ.set 0 _).set 1 _)[2]?=_
   simp_all
theorem Gv {C:adV}{d:Dv}{B:Int}{d0 d1:Dv}{G:Hp}{σ:St}(h:∃ao vs,xu K C d B G ao/\ao.length=2+2/\aH K G [d0,d1] vs/\σ=a7 [0,1] vs ao):aX K G [some (.fz d0),some (.fz d1),some (ti B),none] σ/\vS K C d 3 G σ:=by
 obtain⟨ao,vs,hp,l,hv,e⟩:_:=h;obtain⟨⟨m,dx,fs,v,hm,ht⟩,h3⟩:_:=Mq G ao vs hp;obtain⟨x,y,rfl,hx,hy⟩:_:=p8 hv;obtain⟨s0,_,rfl,l1⟩:_:=oB l;obtain⟨s1,_,rfl,l2⟩:_:=oB l1;obtain⟨s2,r,rfl,_⟩:_:=oB l2;subst e;cases h3;exact⟨gh hx (gh hy (gh ⟨rfl,rfl⟩ (nR 'Y'))),m,dx,fs,v,hm,ht⟩
theorem abI {os:LL}(ok:eK c os)(h:a<os.length):iN (iX c os a)=aG c.length (os.getD a []):=by
 unfold iX iN;rw[i4];have om:os.getD a []∈os:=by
  simp_all
 refine(List.map_congr_left λx hx=>?_).trans (aeX _);have:=(jc (ok.bK _ om)).mp hx
 grind
theorem aaw (F:fE K "__init__" "Market.__init__" zh .none f fd)(T:Txt mg)(U:k6 K C)(Bv:Kn P w K mg base bx j1 "full_order" f1 cG ["table", "asker"] (spT K Fu))(WB:Kn P w K mg base bx j2 "parts_of" f2 fd2 ["one", "bottom"] (spT K Ot))(l1:j1<=k)(l2:j2<=k):bS P w K mg base bx (k+1) f fd ["self", "table", "shares", "bottom"] (PF K C):=by
 refine F.ok Mp (λvs H Q E z9=>by obtain⟨_,_,_,_,_,_,_,_,_,_,h1,_⟩:=z9;rw[h1];rfl) λaN A outer s H vs Q E hr h=>?_
 obtain⟨G,m,dx,tv,sv,c,os,W,B,S,rfl,sm,hm,gm,ht,hs,sh,kv⟩:_:=h;have big:=cw;have c6:=sh.ok.c6;have o6:=sh.ok.o6;refine⟨_,dr (iq (i:=4) Mp.nd rfl (Or.inr rfl) (dR (F:=tY P w K mg base f k) ⟨aN,A,outer,s,H,E,hr⟩))
  (dr (su (pv 0) (dR (F:=tY P w K mg base f k) ⟨aN,A,outer,s,H,E,hr⟩) rfl)
  (dr (su (pv 0) (dR (F:=tY P w K mg base f k) ⟨aN,A,outer,s,H,E,hr⟩) rfl)
  (dr (su (pv 0) (dR (F:=tY P w K mg base f k) ⟨aN,A,outer,s,H,E,hr⟩) rfl)
  (dr (su (pv 0) (dR (F:=tY P w K mg base f k) ⟨aN,A,outer,s,H,E,hr⟩) rfl)
  (gG (su (pv 0) (dR (F:=tY P w K mg base f k) ⟨aN,A,outer,s,H,E,hr⟩) rfl)))))),?_⟩
 show eQ (lM _ _) _ _ [some (.ref m),some tv,some sv,some (.int B),none] H;refine vv (t:=.fz (dis (c++[(os.length:Int)]))) (Ev.as (sy (xs:=c.map di) (ys:=[di (os.length:Int)]) (tb':=.ow [ti (os.length:Int)]) (bF (d:=dis c) (ae 1 rfl) ai rfl (dh (j:=0) rfl)) (cf (ag (Ev.to (bY T.bU (ae 2 rfl) (.inl rfl)) ?_) ak) (by show 1<=sizeLine;lia)) rfl rfl (by rw[aa];show c.length+1<=sizeLine;lia)) ?_) sm (abH ht hs) λwv G1 H1 s1 hw=>?_
 ·rw[aa,vc]
 ·rw[fP];show Dv.lst _=Dv.lst _;rw[BN];rfl
 have Ii:=ht.mono s1.g;have Ij:=hs.mono s1.g;have Ik:=s1.h _ _ hm;have off:∀{Ga Ha Gb Hb:Hp} {a:adV} {o:HO},Step Ga Ha Gb Hb->Ga a=none->Ha a=some o->Gb a=none:=λ{Ga Ha Gb Hb a o} e h1 h2=>by
  cases z:Gb a with
  |none=>rfl
  |some u=>
   have:=e.n a h1 (by rw[z];simp);rw[h2]at this;cases this
 have Sj:=off s1 gm hm;dsimp only[eJ,eQ,List.set];have adB:∀a,a<os.length->aF os (a:Int)=some (os.getD a []):=λa ha=>dh (by rw[ir,ab ha];rfl)
 have gN:∀a,a<os.length->(os.getD a []).length<=100:=λa ha=>by
  have om:os.getD a []∈os:=by
   rw[ir,ab ha];exact aeg _
  have:=B8 (sh.ok.nd _ om) (sh.ok.bK _ om);lia
 refine vv (t:=.ow ((List.range os.length).map λa=>aA (aG c.length (os.getD a [])))) (fQ (own:=["asker"]) (fr:=[1]) (List.range os.length) (λ(a:Nat)=>di (a:Int)) (λa=>aA (aG c.length (os.getD a []))) (λi=>cv) (bb.to (gj T.eG (bY T.bU (ae 2 rfl) (.inl rfl)) (by rw[aa,vc];lia)) ?_) (bu 0 (λ_=>bT)) 'Q' (by rw[vc];lia) (λa ha=>⟨_,rfl,by exact aU Bv l1 (ag (ae 1 rfl) (ag (ae 0 rfl) ak)) ⟨c,os,_,os.getD a [],'O',gN a (l9.mp ha),adB a (l9.mp ha),rfl,rfl⟩⟩) (λdd=>by cases dd<;>rfl)) s1.s (uO Ii Ij hw) λv1 G2 H2 s2 h1=>?_
 ·rw[aa,vc];show(List.range os.length).map (λ(k:Nat)=>di (0+(k:Int)))=_;exact List.map_congr_left λk _=>by rw[ad5]
 have o1:Hv K G2 (orM (xt c os W B S)) v1:=by
  rw[fu]at h1;have:((List.range os.length).map λa=>dis (iN (iX c os a)))=(List.range os.length).map λa=>er (aA (aG c.length (os.getD a []))):=List.map_congr_left λa ha=>by rw[abI sh.ok (l9.mp ha),bP]
  show Hv K G2 (.lst ((List.range os.length).map λa=>dis (iN (iX c os a)))) v1;rw[this];exact h1
 have i7:=s2.h _ _ Ik;have w4:=off s2 Sj Ik;refine⟨.ref m,rfl,m,C,dx,_,rfl,i7,U.cl,U.n1,by show 0<1000;decide,?_⟩;have e2:=s1.trans s2;have X2:Sx G H [m] G2 (upd H2 m (.ins C dx [("orders",v1)])) [m]:=(Sx.step e2).trans (.put e2.s (.head _) w4);have xx:upd H2 m (.ins C dx [("orders",v1)]) m=some (.ins C dx [("orders",v1)]):=bQ;show eQ _ _ _ _ (upd H2 m (.ins C dx [("orders",v1)]));generalize upd H2 m (.ins C dx [("orders",v1)])=H3 at X2 xx;have Il:=Ii.mono s2.g;have dq:=Ij.mono s2.g;have Im:=hw.mono s2.g;clear Ik i7 s1 s2 e2 h1 hw Ij Ii Sj;have rl:∀a,a<os.length->(S a).length=c.length+1:=λa ha=>(sh.bO a ha).len
 have Io:(2:Int)^70=((2^70:Nat):Int):=by norm_cast
 have n70:(2:Nat)^70<2^8000:=Nat.pow_lt_pow_right 'Q' 'Q';have small:∀a,a<os.length->∀s∈S a,(fW W s).2.natAbs<2^8000/\(fW W s).1.natAbs<2^8000:=λa ha s hs=>by
  have h1:=gq (s:=s) sh.w0;have h2:=Fe (s:=s) sh.w0;have h3:=Eb (s:=s) sh.w0;have h4:=(sh.bO a ha).t0 s hs;have h5:=sh.w1;rw[Io]at h5
  constructor<;>lia
 have bd:∀q:Int,0<q->(B/q).natAbs<2^8000:=λq hq=>by
  have h1:=Int.ediv_nonneg (Pf sh.b0) (Pf hq);have h2:=af1 q (Pf sh.b0);have h3:=sh.b1;rw[Io]at h3;lia
 have eo:(List.range os.length).map (λa=>aA ((S a).map (oR W B)))=(List.range os.length).map λa=>aA (bC (c.length+1) (cV W B S a)):=List.map_congr_left λa ha=>by
  show _=aA (bC (c.length+1) λx=>oR W B ((S a).getD x 0));rw[abG _ (rl a (l9.mp ha))]
 refine FE (t:=.ow ((List.range os.length).map λa=>aA (bC (c.length+1) (cV W B S a)))) (Ev.to (fQ (own:=["row"]) (fr:=[3]) (List.range os.length) (λa=>dD W (S a)) (λa=>aA ((S a).map (oR W B))) (λi=>cv) (cy (ae 2 rfl) rfl) (bu 0 (λ_=>bT)) 'Q' (by rw[vc];lia) (λa ha=>⟨_,rfl,Ev.to (by exact fQ (own:=["share"]) (fr:=[1]) (S a) (λs=>dF (fW W s)) (λs=>ti (oR W B s)) (λi=>zv ["row", "bottom"] ⟨rfl,'W','W','W','W'⟩ λy hy=>mE _ _ y hy) (cy (ae 0 rfl) (by show Dv.lst _=_;rw[i4];rfl)) (bu 0 (λ_=>bT)) 'Q' (by rw[rl a (l9.mp ha)];lia) (λs hs=>⟨_,rfl,by exact aU WB l2 (ag (ae 0 rfl) (ag (ae 1 rfl) ak)) ⟨_,_,B,gq sh.w0,(small a (l9.mp ha) s hs).1,(small a (l9.mp ha) s hs).2,bd _ (gq sh.w0),rfl,rfl⟩⟩) (λdd=>by cases dd<;>rfl)) (by show Tr.ow _=Tr.ow _;rw[i4];rfl)⟩) (λdd=>by cases dd<;>rfl)) (by rw[eo])) X2.s (uO Il dq Im) λv2 G4 H4 f2 s4 Sl xA=>?_
 obtain⟨o2,r2,rfl,rfl,qT,n2,e2⟩:=Ml Sl;have Sn:=s4.h _ _ xx;have Ip:=off s4 w4 xx;have Iq:m∉o2::r2:=λz=>by
  have:=xA.n m z;rw[xx]at this;cases this
 have Sq:=Il.mono s4.g;have Sr:=dq.mono s4.g;have Ss:=Im.mono s4.g;have o4:=o1.mono s4.g;refine⟨.ref m,rfl,m,C,dx,_,rfl,Sn,U.cl,U.n2,by show 1<1000;decide,?_⟩;show eQ _ _ _ _ (upd H4 m (.ins C dx [("orders",v1),("owned",.ref o2)]));have AG:upd H4 m (.ins C dx [("orders",v1),("owned",.ref o2)]) m=some (.ins C dx [("orders",v1),("owned",.ref o2)]):=bQ;have AH:upd H4 m (.ins C dx [("orders",v1),("owned",.ref o2)]) o2=some (.lst (r2.map V.ref)):=by rw[aQ λz=>Iq (by rw[<- z];exact .head _)];exact qT
 have e5:∀(i:Nat) a,r2[i]?=some a->upd H4 m (.ins C dx [("orders",v1),("owned",.ref o2)]) a=some (cU (c.length+1) (cV W B S i)):=λi a hi=>by rw[jk (l:=r2) (λz=>Iq (.tail _ z)) (ba hi)];exact e2 i a hi
 have X5:Sx G H [m] G4 (upd H4 m (.ins C dx [("orders",v1),("owned",.ref o2)])) (m::o2::r2):=((X2.trans (.step s4)).trans (.put s4.s (.head _) Ip)).more λx hx=>by
  obtain z|z:=ff.mp hx
  ·exact .inl (z▸.head _)
  ·exact .inr ((X2.k x (xA.n x z)))
 generalize upd H4 m (.ins C dx [("orders",v1),("owned",.ref o2)])=H5 at AG AH e5 X5;have g5:∀a∈m::o2::r2,G4 a=none:=λa ha=>(ff.mp ha).elim (λz=>z▸Ip) (xA.g a)
 have Su:(m::o2::r2).Nodup:=AE.mpr ⟨Iq,xA.d⟩;clear Sn xx qT e2 s4 Sl xA X2 Il dq Im w4 Ip;have cl:∀x,x<c.length+1->0<=fG c os.length x/\fG c os.length x<=9:=λx hx=>by
  unfold fG;rw[ir];obtain z|z:=EM x c.length
  ·rw[Cf z,ab z];exact sh.ok.cnt _ (aeg z)
  ·rw[wb z,show x-c.length=0 by lia];show(0:Int)<=(os.length:Int)/\(os.length:Int)<=9;lia
 refine zf (Φ:=PhI K C (kZ os.length (c.length+1) (cV W B S)) (rI c os W B S (some (.fz (adA c os))))) (t:=aA (bC (c.length+1) (af.qZ os.length B (fG c os.length) (cV W B S)).sp)) (a8.to (va (Ψ:=xu K C (kZ os.length (c.length+1) (cV W B S)) B) (own:=["one", "count"]) (fr:=[3,0]) (λi=>Qe ⟨rfl,rfl,'W','W','W','W'⟩) (bb.p (rL T.mB (ae 4 rfl) rfl) λG σ h=>h.2) (iT 0 1 (λ_=>bT)) 'Q' (λ_=>true) (λk=>ti ((af.qZ os.length B (fG c os.length) (cV W B S)).sp k)) (by rw[lA,aa,xw];show c.length+1<sizeLine;lia) (λG G' σ e z9=>by obtain⟨h1,h2⟩:=z9;exact⟨Ox e h1,h2⟩) (λG σ h=>?_) Mq (λq d hd=>?_)) (by rw[lA,aa,xw];exact zg _ _)) (gk X5.s) ⟨⟨m,dx,_,_,rfl,by rw[du (.head _)];exact AG,rfl,DE (by rw[du (.tail _ (.head _))];exact AH) n2 λi a e=>by rw[du (.tail _ (.tail _ (ba e)))];exact e5 i a e⟩,uO (Sq.mono (fm g5)) (Sr.mono (fm g5)) (Ss.mono (fm g5))⟩ λv3 G6 H6 f3 s6 ow6 Sv=>?_
 ·obtain⟨⟨m,dx,fs,v,h1,h2⟩,h3⟩:=h;refine⟨⟨m,dx,fs,v,?_,h2⟩,?_⟩
  ·show some ((σ[0]?).join)=_;rw[h1];rfl
  ·show some ((σ[3]?).join)=_;obtain⟨w3,q1,q2⟩:_:=h3 3 _ rfl;rw[q1,aO q2];rfl
 ·obtain⟨x,hx,rfl⟩:=lz hd;have hq:q<c.length+1/\x=di (fG c os.length q):=by
   rw[l8]at hx;cases e:(c++[(os.length:Int)])[q]? with
   |none=>rw[e]at hx;cases hx
   |some y=>
    rw[e]at hx;have hl:=(gz.mp e).1;rw[xw]at hl;refine⟨hl,?_⟩;unfold fG;rw[ir,e];exact(FF hx).symm
  obtain⟨hq,rfl⟩:=hq;have xk:Mo λG σ => ∃ao vs,xu K C (kZ os.length (c.length+1) (cV W B S)) B G ao/\ao.length=2+2/\aH K G [di q,di (fG c os.length q)] vs/\σ=a7 [0,1] vs ao:=λG G' σ e z9=>by obtain⟨ao,vs,⟨h1,h2⟩,l,hv,es⟩:_:=z9;exact⟨ao,vs,⟨Ox e h1,h2⟩,l,hv.mono e,es⟩
  have hc:=cl q hq;have h8:(9:Nat)<2^8000:=zd (by decide:(9:Nat)<2^4) (afe 'Q' 'Q');have gR:=sh.b1;have AI:=sh.b0;rw[Io]at gR;refine⟨_,rfl,Dt,λ_=>?_⟩;refine aau xk (Ev.p (ρ:=[some (ti q),some (ti (fG c os.length q)),some (ti B),none]) (by exact km (ae 1 rfl) (ae 2 rfl) ⟨'O','O'⟩) λG σ h=>(Gv h).1) (aav (ns:=bC os.length λa=>cV W B S a q) T.Fs (a8.to (se (ρ:=[some (ti q),some (ti (fG c os.length q)),some (ti B),none]) (own:=["row"]) (fr:=[0]) (λi=>zv ["one", "count", "bottom", "self"] ⟨rfl,'W','W','W','W'⟩ λy hy=>mE _ _ y hy) (λG σ h=>(Gv h).1) (uj (jK (C:=C) (d:=kZ os.length (c.length+1) (cV W B S)) 3 U.cl U.n2 (λG σ h=>(Gv h).2) (λi=>pv 3)) rfl) (bu 0 (λ_=>bT)) 'Q' (λ_=>true) (λk=>ti (cV W B S k q)) (by rw[aa,vc];lia) (λk d hd=>?_)) (by rw[aa,vc];exact zg _ _)) (bP _));obtain⟨hk,rfl⟩:=yZ hd;exact⟨_,rfl,sD,λ_=>by exact bj (d:=di (cV W B S k q)) (ae 0 rfl) (ae 1 rfl) rfl (sX _ hq)⟩
 obtain⟨l3,rfl,hl3,rfl⟩:_:=vz ow6;have e6:=ux g5 s6;have rz:=Sv.n l3 (.head _);have AJ:l3∉m::o2::r2:=λz=>by
  obtain z|z:=ff.mp z
  ·rw[z,AG]at rz;cases rz
  obtain z|z:=ff.mp z
  ·rw[z,AH]at rz;cases rz
  ·obtain⟨i,hi⟩:=YI z;rw[e5 i _ hi]at rz;cases rz
 have l3g:fL G6 (m::o2::r2) l3=none:=by rw[nX AJ];exact Sv.g l3 (.head _)
 have g6:∀a∈m::o2::r2,fL G6 (m::o2::r2) a=none:=λa ha=>zc ha
 have Sw:=Sq.mono e6.g;have Sy:=Sr.mono e6.g;have Sz:=Ss.mono e6.g;have o6':=o4.mono e6.g;have X6:=X5.trans (.step e6);have hm6:=s6.h _ _ AG;have ho6:=s6.h _ _ AH;have e6':∀(i:Nat) a,r2[i]?=some a->H6 a=some (cU (c.length+1) (cV W B S i)):=λi a hi=>s6.h _ _ (e5 i a hi)
 generalize fL G6 (m::o2::r2)=G7 at *;have xB:m∉o2::r2:=(AE.mp Su).1;refine⟨.ref m,rfl,m,C,dx,_,rfl,hm6,U.cl,U.n3,by show 2<1000;decide,?_⟩;show eQ _ _ _ _ (upd H6 m (.ins C dx [("orders",v1),("owned",.ref o2),("spare",.ref l3)]));have Ir:upd H6 m (.ins C dx [("orders",v1),("owned",.ref o2),("spare",.ref l3)]) m=some (.ins C dx [("orders",v1),("owned",.ref o2),("spare",.ref l3)]):=bQ;have Iu:upd H6 m (.ins C dx [("orders",v1),("owned",.ref o2),("spare",.ref l3)]) o2=some (.lst (r2.map V.ref)):=by rw[jk xB (.head _)];exact ho6
 have e7:∀(i:Nat) a,r2[i]?=some a->upd H6 m (.ins C dx [("orders",v1),("owned",.ref o2),("spare",.ref l3)]) a=some (cU (c.length+1) (cV W B S i)):=λi a hi=>by rw[jk xB (.tail _ (ba hi))];exact e6' i a hi
 have Iw:upd H6 m (.ins C dx [("orders",v1),("owned",.ref o2),("spare",.ref l3)]) l3=some (cU (c.length+1) (af.qZ os.length B (fG c os.length) (cV W B S)).sp):=by rw[jN (l:=m::o2::r2) AJ (.head _)];exact hl3
 have X7:Sx G H [m] G7 (upd H6 m (.ins C dx [("orders",v1),("owned",.ref o2),("spare",.ref l3)])) (m::o2::l3::r2):=(X6.trans (.put X6.s (.head _) (g6 m (.head _)))).more λx hx=>by
  obtain z|hx:=ff.mp hx
  ·exact .inl (z▸.head _)
  obtain z|hx:=ff.mp hx
  ·exact .inl (z▸.tail _ (.head _))
  obtain z|z:=ff.mp hx
  ·exact .inr (z▸X5.k _ rz)
  ·exact .inl (.tail _ (.tail _ z))
 generalize upd H6 m (.ins C dx [("orders",v1),("owned",.ref o2),("spare",.ref l3)])=H7 at Ir Iu e7 Iw X7;refine FE (t:=.ow ((List.range os.length).map λa=>aA (bC (c.length+1) ((λ_ _=>0) a)))) (fQ (own:=["row"]) (fr:=[4]) (List.range os.length) (λa=>dD W (S a)) (λa=>aA (bC (c.length+1) ((λ_ _=>0) a))) (λi=>cv) (cy (ae 2 rfl) rfl) (bu 0 (λ_=>bT)) 'Q' (by rw[vc];lia) (λa ha=>⟨_,rfl,Ev.to (by exact fQ (own:=["count"]) (fr:=[]) (c++[(os.length:Int)]) di (λ_=>ti 0) (λi=>zv ["row", "supply"] ⟨rfl,'W','W','W','W'⟩ λy hy=>mE _ _ y hy) (cy (ae 1 rfl) rfl) (bu 0 (λ_=>bT)) 'Q' (by rw[xw];show c.length+1<sizeLine;lia) (λs hs=>⟨_,rfl,by exact ai⟩) (λdd=>by cases dd<;>rfl)) ?_⟩) (λdd=>by cases dd<;>rfl)) X7.s (uO Sw Sy Sz) λv4 G8 H8 f4 s8 ow8 AK=>?_
 ·show Tr.ow _=Tr.ow (List.map _ (List.map _ _));rw[i4,List.map_const'];show Tr.ow _=Tr.ow (List.map (λ_=>ti 0) (List.range (c.length+1)));rw[List.map_const',xw,vc];rfl
 obtain⟨eU,r4,rfl,rfl,ho8,n4,e8⟩:_:=Ml ow8;have g7:∀a∈m::o2::l3::r2,G7 a=none:=λa ha=>by
  obtain z|ha:=ff.mp ha
  ·exact z▸g6 m (.head _)
  obtain z|ha:=ff.mp ha
  ·exact z▸g6 o2 (.tail _ (.head _))
  obtain z|z:=ff.mp ha
  ·exact z▸l3g
  ·exact g6 a (.tail _ (.tail _ z))
 have SA:∀a∈m::o2::l3::r2,∃o,H7 a=some o:=λa ha=>by
  obtain z|ha:=ff.mp ha
  ·exact⟨_,z▸Ir⟩
  obtain z|ha:=ff.mp ha
  ·exact⟨_,z▸Iu⟩
  obtain z|z:=ff.mp ha
  ·exact⟨_,z▸Iw⟩
  ·obtain⟨i,hi⟩:=YI z;exact⟨_,e7 i _ hi⟩
 have xC:∀a∈m::o2::l3::r2,a∉eU::r4:=λa ha z=>by
  obtain⟨o,ho⟩:=SA a ha;rw[AK.n a z]at ho;cases ho
 have g8:∀a∈m::o2::l3::r2,G8 a=none:=λa ha=>by
  obtain⟨o,ho⟩:=SA a ha;exact off s8 (g7 a ha) ho
 have k8:∀{a o},H7 a=some o->H8 a=some o:=λ{a o} h=>s8.h a o h
 refine⟨.ref m,rfl,m,C,dx,_,rfl,k8 Ir,U.cl,U.n4,by show 3<1000;decide,?_⟩;have eH8:upd H8 m (.ins C dx (gJ "got" (.ref eU) [("orders",v1),("owned",.ref o2),("spare",.ref l3)]))=upd H8 m (.ins C dx [("orders",v1),("owned",.ref o2),("spare",.ref l3),("got",.ref eU)]):=rfl;rw[eH8];dsimp only;show P7 _ _ _ _ _ _ (upd H8 m (.ins C dx [("orders",v1),("owned",.ref o2),("spare",.ref l3),("got",.ref eU)]));have md:m∉o2::l3::r2:=λz=>by
  obtain z|z:=ff.mp z
  ·exact xB (z▸.head _)
  obtain z|z:=ff.mp z
  ·exact AJ (z▸.head _)
  ·exact xB (.tail _ z)
 have mq:m∉eU::r4:=xC m (.head _);have k9:∀{a o},a≠m->H8 a=some o->upd H8 m (.ins C dx [("orders",v1),("owned",.ref o2),("spare",.ref l3),("got",.ref eU)]) a=some o:=λ{a o} n h=>by rw[aQ n];exact h
 have SD:upd H8 m (.ins C dx [("orders",v1),("owned",.ref o2),("spare",.ref l3),("got",.ref eU)]) m=some (.ins C dx [("orders",v1),("owned",.ref o2),("spare",.ref l3),("got",.ref eU)]):=bQ;have SE:=k9 (λz=>md (z▸.head _)) (k8 Iu);have SF:=k9 (λz=>md (z▸.tail _ (.head _))) (k8 Iw);have e9:∀(i:Nat) a,r2[i]?=some a->upd H8 m (.ins C dx [("orders",v1),("owned",.ref o2),("spare",.ref l3),("got",.ref eU)]) a=some (cU (c.length+1) (cV W B S i)):=λi a hi=>k9 (λz=>md (z▸.tail _ (.tail _ (ba hi)))) (k8 (e7 i a hi))
 have SG:=k9 (λz=>mq (z▸.head _)) ho8;have SH:∀(i:Nat) a,r4[i]?=some a->upd H8 m (.ins C dx [("orders",v1),("owned",.ref o2),("spare",.ref l3),("got",.ref eU)]) a=some (cU (c.length+1) λ_=>0):=λi a hi=>k9 (λz=>mq (z▸.tail _ (ba hi))) (e8 i a hi)
 have X9:Sx G H [m] G8 (upd H8 m (.ins C dx [("orders",v1),("owned",.ref o2),("spare",.ref l3),("got",.ref eU)])) ((m::o2::l3::r2)++(eU::r4)):=((X7.trans (.step s8)).trans (.put s8.s (.head _) (g8 m (.head _)))).more λx hx=>by
  obtain z|z:=qr.mp hx
  ·exact .inl z
  ·exact .inr (X7.k x (AK.n x z))
 generalize upd H8 m (.ins C dx [("orders",v1),("owned",.ref o2),("spare",.ref l3),("got",.ref eU)])=H9 at *;have ht8:=Sw.mono s8.g;have hs8:=Sy.mono s8.g;have hw8:=Sz.mono s8.g;refine FE (t:=aA (bC os.length λ_=>B)) (Ev.to (fQ (own:=["row"]) (fr:=[3]) (List.range os.length) (λa=>dD W (S a)) (λa=>ti B) (λi=>cv) (cy (ae 2 rfl) rfl) (bu 0 (λ_=>bT)) 'Q' (by rw[vc];lia) (λa ha=>⟨_,rfl,by exact ae 1 rfl⟩) (λdd=>by cases dd<;>rfl)) (by show Tr.ow _=Tr.ow (List.map _ (List.map _ _));rw[i4];rfl)) X9.s (uO ht8 hs8 hw8) λv5 Ib nI f5 jC adC QD=>?_
 obtain⟨l5,rfl,hl5,rfl⟩:=vz adC;have SJ:=QD.n l5 (.head _);have SK:∀a∈(m::o2::l3::r2)++(eU::r4),∃o,H9 a=some o:=λa ha=>by
  obtain ha|ha:=qr.mp ha
  ·obtain z|ha:=ff.mp ha
   ·exact⟨_,z▸SD⟩
   obtain z|ha:=ff.mp ha
   ·exact⟨_,z▸SE⟩
   obtain z|z:=ff.mp ha
   ·exact⟨_,z▸SF⟩
   ·obtain⟨i,hi⟩:=YI z;exact⟨_,e9 i _ hi⟩
  ·obtain z|z:=ff.mp ha
   ·exact⟨_,z▸SG⟩
   ·obtain⟨i,hi⟩:=YI z;exact⟨_,SH i _ hi⟩
 have g9:∀a∈(m::o2::l3::r2)++(eU::r4),G8 a=none:=λa ha=>(qr.mp ha).elim (g8 a) (AK.g a)
 have oS:∀a∈(m::o2::l3::r2)++(eU::r4),Ib a=none:=λa ha=>by
  obtain⟨o,ho⟩:=SK a ha;exact off jC (g9 a ha) ho
 have AO:l5∉(m::o2::l3::r2)++(eU::r4):=λz=>by
  obtain⟨o,ho⟩:=SK l5 z;rw[SJ]at ho;cases ho
 have hh:∀{a o},H9 a=some o->nI a=some o:=λ{a o} h=>jC.h a o h
 refine⟨.ref m,rfl,m,C,dx,_,rfl,hh SD,U.cl,U.n5,by show 4<1000;decide,?_⟩;have kf:∀{a o},a≠m->nI a=some o->upd nI m (.ins C dx [("orders",v1),("owned",.ref o2),("spare",.ref l3),("got",.ref eU),("wanted",.ref l5)]) a=some o:=λ{a o} n h=>by rw[aQ n];exact h
 refine kv Ib (upd nI m (.ins C dx [("orders",v1),("owned",.ref o2),("spare",.ref l3),("got",.ref eU),("wanted",.ref l5)])) v1 o2 l3 eU l5 r2 r4 (((X9.trans (.step jC)).trans (.put jC.s (.head _) (oS m (.head _)))).more λx hx=>?_) ⟨bQ,((o6'.mono s8.g).mono jC.g),kf (λz=>md (z▸.head _)) (hh SE),n2,λi a hi=>kf (λz=>md (z▸.tail _ (.tail _ (ba hi)))) (hh (e9 i a hi)),kf (λz=>md (z▸.tail _ (.head _))) (hh SF),kf (λz=>mq (z▸.head _)) (hh SG),n4,λi a hi=>kf (λz=>mq (z▸.tail _ (ba hi))) (hh (SH i a hi)),kf (λz=>AO (z▸.head _)) hl5,?_,λa ha=>?_⟩
 ·obtain z|hx:=ff.mp hx
  ·exact .inl (z▸.head _)
  obtain z|hx:=ff.mp hx
  ·exact .inl (z▸.tail _ (.head _))
  obtain z|hx:=ff.mp hx
  ·exact .inl (z▸.tail _ (.tail _ (.head _)))
  obtain z|hx:=ff.mp hx
  ·exact .inl (z▸l7 _ (.head _))
  obtain z|hx:=ff.mp hx
  ·exact .inr (z▸X9.k _ SJ)
  obtain z|z:=qr.mp hx
  ·exact .inl (xy _ (.tail _ (.tail _ (.tail _ z))))
  ·exact .inl (l7 _ (.tail _ z))
 ·have n5:=AE.mp (AE.mp Su).2;have n8:=AE.mp AK.d;have a3:=not_or.mp (λz=>AJ (ff.mpr z));have SN:=not_or.mp (λz=>a3.2 (ff.mpr z));have b1:=not_or.mp (λz=>mq (ff.mpr z));have b2:=not_or.mp (λz=>xC o2 (.tail _ (.head _)) (ff.mpr z));have b3:=not_or.mp (λz=>xC l3 (.tail _ (.tail _ (.head _))) (ff.mpr z));have m2:=not_or.mp (λz=>xB (ff.mpr z));have q:=λa ha (e:a=l5)=>AO (e▸ha)
  exact FD ⟨m2.1,ad7 a3.1,b1.1,q _ (.head _),m2.2,b1.2⟩ ⟨ad7 SN.1,b2.1,q _ (.tail _ (.head _)),n5.1,b2.2⟩ ⟨b3.1,q _ (.tail _ (.tail _ (.head _))),SN.2,b3.2⟩ ⟨q _ (l7 _ (.head _)),λz=>xC eU (.tail _ (.tail _ (.tail _ z))) (.head _),n8.1⟩ ⟨λz=>AO (xy _ (.tail _ (.tail _ (.tail _ z)))),λz=>AO (l7 _ (.tail _ z))⟩ n5.2 n8.2 λa h1 h2=>xC a (.tail _ (.tail _ (.tail _ h1))) (.tail _ h2)
 ·obtain z|ha:=ff.mp ha
  ·exact z▸oS m (.head _)
  obtain z|ha:=ff.mp ha
  ·exact z▸oS o2 (.tail _ (.head _))
  obtain z|ha:=ff.mp ha
  ·exact z▸oS l3 (.tail _ (.tail _ (.head _)))
  obtain z|ha:=ff.mp ha
  ·exact z▸oS eU (l7 _ (.head _))
  obtain z|ha:=ff.mp ha
  ·exact z▸QD.g l5 (.head _)
  obtain z|z:=qr.mp ha
  ·exact oS a (xy _ (.tail _ (.tail _ (.tail _ z))))
  ·exact oS a (l7 _ (.tail _ z))
end
section
structure fM (c:LI) (os:LL) (W:Int) (S:Nat->LI):Prop where
 ok:eK c os
 w0 : 0<W
 w1:W<2^70
 bO:∀a,a<os.length->fD W c.length (S a)
 sum:∀a,a<os.length->(S a).sum=W
 col:∀x,x<c.length->af.sg os.length (λa=>(S a).getD x 0)<=c.getD x 0*W
def bZ (W:Int)(A:Nat)(S:Nat->LI):Int:=vR W ((List.range A).map S)
theorem Pa.uniq (h:Pa st p)(k:Pa st q):p=q:=by
 have le:∀{p q},Pa st p->Pa st q->p<=q:=λ{p q} h k=>by
  obtain⟨⟨c,hc,e⟩,_⟩:=k;have:=h.2 c hc;obtain e|e:=e<;>lia
 exact af9 (le h k) (le k h)
def tu:LI->Int
 |[] => 0
 |[a] => a
 |a::b::l=>if a<=tu (b::l)then a else tu (b::l)
theorem Mr:∀{l:LI},l≠[]->tu l∈l/\∀a∈l,tu l<=a
 |[],h=>absurd rfl h
 |[a],_=>⟨.head _,λb hb=>by rw[BB.mp hb];exact aeZ _⟩
 |a::b::l,_=>by
  obtain⟨h1,h2⟩:=Mr (l:=b::l) 'Y';unfold tu
  grind
def SQ (st:Ms):Int:=tu (((bE st).map λc=>st.s.wn c)++(bE st).map λc=>gP st (af.best st.A st.O st.s c) (af.nx st.A st.O st.s c) (af.best st.A st.O st.s c))
theorem PH (go:Go st)(hw:af.cW st.A st.s≠[]):Pa st (SQ st):=by
 obtain⟨h1,h2⟩:=Mr (l:=((bE st).map λc=>st.s.wn c)++(bE st).map λc=>gP st (af.best st.A st.O st.s c) (af.nx st.A st.O st.s c) (af.best st.A st.O st.s c)) (by
  intro z;rw[List.append_eq_nil_iff,List.map_eq_nil_iff]at z;exact(CW go hw).2 z.1)
 refine⟨?_,λc hc=>⟨h2 _ (xy _ (i8.mpr ⟨c,hc,rfl⟩)),h2 _ (l7 _ (i8.mpr ⟨c,hc,rfl⟩))⟩⟩;obtain z|z:=qr.mp h1
 ·obtain⟨c,hc,e⟩:=i8.mp z;exact⟨c,hc,.inl e.symm⟩
 ·obtain⟨c,hc,e⟩:=i8.mp z;exact⟨c,hc,.inr e.symm⟩
def jy:Nat->Ms->Ms
 |0,st=>st
 |n+1,st=>if af.cW st.A st.s=[]then st else jy n (zX st (SQ st))
section
structure Gx (st:Ms) (B:Int) (cnt:Nat->Int) (sh:Nat->Nat->Int) (n:Nat):Prop where
 A6:st.A<=6
 M7:st.M<=7
 ok:af.Ok st.A st.O st.M
 iv:∃G,af.Iv st.A st.O st.s st.M B cnt sh [] G
 hn:n<st.M
 hc:cnt n=(st.A:Int)
 hs:∀a,a<st.A->(∀x,x<st.M->0<=sh a x)/\af.sg st.M (sh a)=B
theorem Gx.go (h:Gx st B cnt sh n):Go st:=by obtain⟨G,iv⟩:=h.iv;exact⟨h.A6,h.M7,h.ok,B,cnt,sh,G,n,iv,h.hn,h.hc⟩
theorem Gx.next (h:Gx st B cnt sh n)(hw:af.cW st.A st.s≠[])(hp:Pa st p):Gx (zX st p) B cnt sh n/\af.mu st.A st.M (zX st p).s<af.mu st.A st.M st.s:=by
 obtain⟨rg,zH⟩:=PB h.go hw hp;obtain⟨G,iv⟩:=h.iv;obtain⟨W,iv2⟩:=af.abr h.ok iv h.hn h.hc rg h.hs;refine⟨⟨h.A6,h.M7,h.ok,⟨_,af.NP iv2 λa ha=>?_⟩,h.hn,h.hc,h.hs⟩,af.acq iv h.M7 rg (λc hc=>(af.rZ h.ok iv h.hn h.hc (rg.rg c hc).1 (rg.rg c hc).2).1) zH⟩;obtain⟨h1,h2⟩:=B0.mp ha;exact⟨(rg.rg a h1).1,GS h2⟩
theorem FG (A M:Nat)(s:af.St) : 0<=af.mu A M s:=by
 have h1 : 0<=af.mW A s:=af.lH λ_ _=>af.zF _
 have h2 : 0<=af.mO A M s:=af.lH λ_ _=>af.lH λ_ _=>af.zF _
 have h3 : 0<=af.mS M s:=af.lH λ_ _=>af.zF _
 unfold af.mu;lia
theorem Mt:∀(n:Nat) {st:Ms} {B:Int} {cnt:Nat->Int} {sh:Nat->Nat->Int} {z:Nat},Gx st B cnt sh z->af.mu st.A st.M st.s<n->Gx (jy n st) B cnt sh z/\af.cW (jy n st).A (jy n st).s=[]/\(jy n st).A=st.A/\(jy n st).M=st.M/\(jy n st).O=st.O
 |0,st,_,_,_,_,h,l=>by
  have:=FG st.A st.M st.s;lia
 |n+1,st,B,cnt,sh,z,h,l=>by
  unfold jy;by_cases hw:af.cW st.A st.s=[]
  ·simp_all
  ·rw[rf hw];obtain⟨h1,h2⟩:=h.next hw (PH h.go hw)
   exact Mt n h1 (by show af.mu st.A st.M _<_;lia)
end
section
variable {os:LL}
theorem sM (h:fM c os W S) : 0<bZ W os.length S/\bZ W os.length S∣W/\∀a,a<os.length->∀x,(fW W ((S a).getD x 0)).2∣bZ W os.length S:=by
 obtain⟨h1,h2,h3⟩:_:=aas h.w0 ((List.range os.length).map S);refine⟨h1,h2,λa ha x=>?_⟩;rw[ir];cases e:(S a)[x]? with
 |none=>
  show(fW W 0).2∣_;rw[rT h.w0];grind
 |some v=>exact h3 _ (i8.mpr ⟨a,l9.mpr ha,rfl⟩) v (ba e)
theorem QE (h:fM c os W S)(ha:a<os.length)(x:Nat):cV W (bZ W os.length S) S a x*(W/bZ W os.length S)=(S a).getD x 0:=by
 obtain⟨b0,bd,bs⟩:_:=sM h;have e:=abF h.w0 (bs a ha x);have q:=OR bd;generalize bZ W os.length S=B at *;generalize W/B=Q at *;have:(oR W B ((S a).getD x 0)*Q)*B=(S a).getD x 0*B:=by
  grind
 exact Int.eq_of_mul_eq_mul_right 'O' this
theorem FH (h:fM c os W S) : 0<W/bZ W os.length S:=by
 obtain⟨b0,bd,bs⟩:=sM h;have q:=OR bd;have w0:=h.w0;obtain z|z:=afz 0 (W/bZ W os.length S)
 ·exact z
 ·have:=Int.mul_nonpos_of_nonpos_of_nonneg z (Pf b0);lia
theorem Oy {l:LI}(h:l.length=n):af.sg n (λx=>l.getD x 0)=l.sum:=congrArg List.sum (Mm l h)
theorem vT (f:Nat->Int)(q:Int):af.sg n (λx=>f x*q)=af.sg n f*q:=by
 grind [Int.mul_comm,af.uZ]
theorem QF (f:Nat->Int)(q:Int)(l:List Nat):af.sl (λx=>f x*q) l=af.sl f l*q:=by
 grind [Int.mul_comm,af.u9]
theorem Oz (h:eK c os):af.Ok os.length (iX c os) (c.length+1):=λa ha=>by
 have om:os.getD a []∈os:=by
  simp_all
 have nd:=(nc h.c6 (h.nd _ om) (h.bK _ om)).2;have mem:=λx=>jc (x:=x) (h.bK _ om)
 refine(aat ?_ aeh).mpr λx=>?_
 ·grind [iX,List.Pairwise.imp_of_mem]
 ·rw[l9]
  constructor
  ·intro hx;obtain⟨y,hy,rfl⟩:=i8.mp hx
   grind
  ·intro hx;exact i8.mpr ⟨(x),(mem _).mpr ⟨'O','O'⟩,'Y'⟩
theorem ED (h:x<c.length):fG c A x=c.getD x 0:=by
 unfold fG
 grind
theorem FI:fG c A c.length=A:=by
 unfold fG
 simp_all
theorem OA (h:fM c os W S):Gx (xt c os W (bZ W os.length S) S) (bZ W os.length S) (fG c os.length) (cV W (bZ W os.length S) S) c.length:=by
 obtain⟨b0,bd,bs⟩:_:=sM h;have q0:=FH h;have q:=OR bd;have o6:=h.ok.o6;have c6:=h.ok.c6;have eq:=λa ha x=>QE h (a:=a) ha x
 have nn:∀a,a<os.length->∀x,0<=cV W (bZ W os.length S) S a x/\cV W (bZ W os.length S) S a x<=bZ W os.length S:=λa ha x=>by
  have e:=eq a ha x;have r : 0<=(S a).getD x 0/\(S a).getD x 0<=W:=by
   have:=ph (h.bO a ha) (x);unfold cj at this;rwa [BY]at this
  generalize cV W (bZ W os.length S) S a x=v at *;generalize bZ W os.length S=B at *;generalize W/B=Q at *
  constructor
  ·obtain z|z:=afz v 0
   ·have:=afI z q0;lia
   ·exact z
  ·obtain z|z:=afz B v
   ·have:=Zp z q0;rw[Int.mul_comm B Q]at this;rw[Int.mul_comm Q B]at q;rw[Int.mul_comm]at this;lia
   ·exact z
 have hs:∀a,a<os.length->(∀x,x<c.length+1->0<=cV W (bZ W os.length S) S a x)/\af.sg (c.length+1) (cV W (bZ W os.length S) S a)=bZ W os.length S:=λa ha=>by
  refine⟨λx _=>(nn a ha x).1,?_⟩;have e:af.sg (c.length+1) (cV W (bZ W os.length S) S a)*(W/bZ W os.length S)=W:=by
   rw[<- vT,af.mI λx _=>eq a ha x,Oy (h.bO a ha).len,h.sum a ha]
  refine Int.eq_of_mul_eq_mul_right 'O' (e.trans ?_);rw[Int.mul_comm];exact q.symm
 refine⟨o6,by show c.length+1<=7;lia,Oz h.ok,af.iv0 b0 hs λx hx=>?_,by show c.length<c.length+1;lia,?_,hs⟩
 ·obtain z|z:=EM x c.length
  ·rw[ED z];have e:af.sg os.length (λa=>cV W (bZ W os.length S) S a x)*(W/bZ W os.length S)<=c.getD x 0*W:=by
    rw[<- vT,af.mI λa ha=>eq a ha x];exact h.col x z
   obtain y|y:=afz (c.getD x 0*bZ W os.length S) (af.sg os.length λa=>cV W (bZ W os.length S) S a x)
   ·have:=Zp y q0;rw[Int.mul_assoc,Int.mul_comm (bZ W os.length S),q]at this;lia
   ·exact y
  ·rw[show x=c.length by have:x<c.length+1:=hx;lia,FI];rw[<- af.uw];exact af.lI λa ha=>(nn a ha _).2
 ·exact FI
def fuel (c:LI)(os:LL)(W:Int)(S:Nat->LI):Nat:=(af.mu os.length (c.length+1) (xt c os W (bZ W os.length S) S).s).toNat+1
def cI (c:LI)(os:LL)(W:Int)(S:Nat->LI):Ms:=jy (fuel c os W S) (xt c os W (bZ W os.length S) S)
def jz (c:LI)(os:LL)(W:Int)(S:Nat->LI)(a:Nat):LI:=bC (c.length+1) λx=>(cI c os W S).s.got a x*(W/bZ W os.length S)
theorem yG (h:fM c os W S):(∃G,af.Iv os.length (iX c os) (cI c os W S).s (c.length+1) (bZ W os.length S) (fG c os.length) (cV W (bZ W os.length S) S) [] G)/\(∀a,a<os.length->(cI c os W S).s.wn a=0)/\(cI c os W S).A=os.length/\(cI c os W S).M=c.length+1:=by
 obtain⟨g,w,e1,e2,e3⟩:=Mt (fuel c os W S) (OA h) (by
  unfold fuel;show af.mu os.length (c.length+1) _<_;lia)
 have e1:(cI c os W S).A=os.length:=e1;have e2:(cI c os W S).M=c.length+1:=e2;have e3:(cI c os W S).O=iX c os:=e3;obtain⟨G,iv⟩:=g.iv;have iv:af.Iv (cI c os W S).A (cI c os W S).O (cI c os W S).s (cI c os W S).M _ _ _ _ _:=iv;have w:af.cW (cI c os W S).A (cI c os W S).s=[]:=w;rw[e1,e2,e3]at iv;refine⟨⟨G,iv⟩,λa ha=>?_,e1,e2⟩;have h0:=iv.w0 a ha;have:¬0<(cI c os W S).s.wn a:=λz=>by
  have:a∈af.cW os.length (cI c os W S).s:=B0.mpr ⟨l9.mpr ha,EO z⟩
  simp_all
 lia
theorem zi (hx:x<c.length+1):(jz c os W S a).getD x 0=(cI c os W S).s.got a x*(W/bZ W os.length S):=by
 unfold jz
 simp_all
theorem aax (a:Nat):(jz c os W S a).length=c.length+1:=by grind [jz]
theorem acy (h:fM c os W S):fM c os W (jz c os W S):=by
 obtain⟨⟨G,iv⟩,w0,_,_⟩:=yG h;obtain⟨b0,bd,_⟩:=sM h;have q0:=FH h;have q:=OR bd;have sm:=λa ha=>by
  have:=iv.row a ha;rw[w0 a ha,Int.add_zero]at this;show af.sg (c.length+1) (λx=>(cI c os W S).s.got a x*(W/bZ W os.length S))=W
  grind [vT,Int.mul_comm]
 refine⟨h.ok,h.w0,h.w1,λa ha=>⟨h.w0,h.w1,aax a,λt ht=>?_⟩,sm,λx hx=>?_⟩
 ·obtain⟨x,hx,rfl⟩:=i8.mp ht;have hx:=l9.mp hx;refine⟨ad1 (iv.g0 a x ha hx) (Pf q0),?_⟩;have e:=sm a ha;have:=af.sI (λx hx=>ad1 (iv.g0 a x ha hx) (Pf q0)) hx;lia
 ·rw[af.mI λa _=>zi (show x<c.length+1 by lia),vT];have e:=iv.col x 'O';have t0 : 0<=af.fK os.length (cI c os W S).s x:=by
   have:=af.lH λa ha=>iv.o0 a x ha 'O'
   have:=iv.s0 x 'O';unfold af.fK;lia
  rw[ED hx]at e;have:af.sg os.length (λa=>(cI c os W S).s.got a x)<=c.getD x 0*bZ W os.length S:='O'
  have:=Me this (Pf q0)
  grind [Int.mul_assoc]
theorem Jl (h:fM c os W S)(ha:a<os.length)(k:Nat):bH (S a) (aG c.length (os.getD a [])) k<=bH (jz c os W S a) (aG c.length (os.getD a [])) k:=by
 obtain⟨⟨G,iv⟩,w0,_,_⟩:_:=yG h;have q0:=FH h;have p:=iv.pl a k ha (w0 a ha);have om:os.getD a []∈os:=by
  simp_all
 have e:∀l,∀aK,(∀x,x<c.length+1->aK.getD x 0=l x)->bH aK (aG c.length (os.getD a [])) k=af.sl l ((iX c os a).take k):=λl aK hl=>by
  unfold bH af.sl iX;rw[<- List.map_take,i4];refine congrArg List.sum (List.map_congr_left λx hx=>?_);have:=(jc (h.ok.bK _ om)).mp (EN hx);exact hl _ 'O'
 rw[e _ (S a) λx _=>(QE h ha x).symm,e _ (jz c os W S a) λx hx=>zi hx,QF,QF]
 simp_all
theorem Xy (h:fM c os W S)(e:∀a,a<os.length->jz c os W S a=S a):∃rk:Nat->Nat,∀t∈cE c.length os S os.length,rk t.2.1.toNat<rk t.2.2.toNat/\(nP W c os.length S).contains t.2.1=true:=by
 obtain⟨⟨G,iv⟩,w0,_,_⟩:_:=yG h;obtain⟨b0,bd,_⟩:_:=sM h;have q:=OR bd;refine⟨G.idxOf,λt ht=>?_⟩;obtain⟨a,j,ha,hj,SR,x,hx,rfl⟩:_:=CN.mp ht;have om:os.getD a []∈os:=by
  rw[ir,ab ha];exact aeg _
 have mem:=λx=>jc (x:=x) (h.ok.bK _ om)
 have ey:=yi hj;generalize (aG c.length (os.getD a [])).getD j 0=y at ey SR;have hy:=(mem y).mp (ba ey);have hxm:=(mem x).mp (EN hx);have gy : 0<(cI c os W S).s.got a y.toNat:=by
  have g:=iv.g0 a y.toNat ha 'O';obtain z|z:=Int.lt_or_eq_of_le g
  ·exact z
  ·exfalso;apply SR;unfold cj;rw[<- e a ha,zi 'O',<- z,Int.zero_mul]
 have bf:af.Bf (iX c os a) x.toNat y.toNat:=by
  refine⟨j,?_,?_⟩
  ·unfold iX;rw[l8,ey];rfl
  ·unfold iX;rw[<- List.map_take];exact i8.mpr ⟨x,hx,rfl⟩
 obtain⟨h1,h2,h3,h4⟩:_:=af.Yq (Oz h.ok) iv (show c.length<c.length+1 by lia) FI b0 w0 ha 'O' gy bf;refine⟨h2,?_⟩;have xc:x.toNat<c.length:='O'
 rw[ED xc]at h4;refine MW.mpr (i8.mpr ⟨x.toNat,B0.mpr ⟨l9.mpr xc,EO ?_⟩,by show((x.toNat))=x;lia⟩);show af.sg os.length (λb=>cj (S b) ((x.toNat:Nat)))=_;have:af.sg os.length (λb=>cj (S b) ((x.toNat)))=af.sg os.length (λb=>(cI c os W S).s.got b x.toNat*(W/bZ W os.length S)):=af.mI λb hb=>by
  unfold cj;rw[BY,<- e b hb,zi 'O']
 rw[this,vT,h4,Int.mul_assoc,Int.mul_comm (bZ W os.length S),q]
theorem Xz (ok:eK c os){rk:Nat->Nat}(h:∀t∈cE c.length os S os.length,rk t.2.1.toNat<rk t.2.2.toNat/\(nP W c os.length S).contains t.2.1=true):oQ W c os S=[]/\dX (dg c os S) (c.length+1)=[]:=by
 constructor
 ·refine List.filter_eq_nil_iff.mpr λt ht z=>?_
  rw[(h t ((uM _ _ _).mem_iff.mp ht)).2]at z;cases z
 ·have pre:∀x∈dX (dg c os S) (c.length+1),∃y∈dX (dg c os S) (c.length+1),rk y.toNat<rk x.toNat:=λx hx=>by
   obtain⟨p,h1,h2,rfl⟩:=L7 hx;obtain⟨t,ht,rfl⟩:=Od h1;refine⟨_,h2,?_⟩;exact(h t ht).1
  have no:∀n x,x∈dX (dg c os S) (c.length+1)->rk x.toNat<n->False:=λn=>by
   induction n with
   |zero=>exact λx _ h=>absurd h (VT _)
   |succ n ih=>
    intro x hx hl;obtain⟨y,hy,l⟩:=pre x hx;exact ih y hy 'O'
  cases e:dX (dg c os S) (c.length+1)with
  |nil=>rfl
  |cons x r=>exact(no _ x (by rw[e];exact .head _) (ae7 _)).elim
theorem Ky (h:fM c os W S)(e:∀a,a<os.length->jz c os W S a=S a):oQ W c os S=[]/\dX (dg c os S) (c.length+1)=[]:=
 by obtain⟨_,hr⟩:=Xy h e;exact Xz h.ok hr
end
end
section
theorem aay {F:aS ι}(mo:Mo Φ)(ha:a8 F Φ a ta)(hb:a8 F Φ b tb')(hk:uR (er ta) (er tb'))(hd:de (er ta)<=50):iO F Φ (.Compare a [.NotEq] [b] pos) (!bX (er ta) (er tb')):=
 Ds mo (λi=>F.hK i▸MQ (F.hr i).units) ha hb (λG H x y Q s hx hy k=>⟨_,_,hk,hx.mono s,hy.mono s,hd,k⟩) (fN _)
theorem Mu (e:Step G H G1 H1)(x:Sx G1 H1 F G2 H2 F2)(h:∀a∈F,H a=none):Step G H G2 H2/\∀a∈F2,H a=none:=by
 refine⟨⟨e.g.trans x.g,λa o ho=>x.h a o (λz=>'J') (e.h a o ho),x.s,λa h1 h2=>?_⟩,λa ha=>?_⟩
 ·by_cases z:G1 a=none
  ·exact e.h.free (x.n a z h2)
  ·exact e.n a h1 z
 ·obtain z|z:=x.f a ha
  ·simp_all
  ·exact e.h.free z
structure SU (P:agc) (w:agd) (K:Frag) (mg:Str->Option vn) (base:Heap) (C:adV) (k:Nat) (f:adV) (fd:FuncData) (ps:List Str) (sp:Sp):Prop where
 m:L2.Mk K C f
 ok:bS P w K mg base bx k f fd ps sp
 b:Binds K fd ps []
 g:mg "Market"=some (.ref C)
abbrev AQ (W:Int)(A:Nat)(S:Nat->LI):Tr:=.ow ((List.range A).map λa=>.ow ((S a).map λs=>tF (fW W s)))
abbrev Gd (c:LI)(os:LL)(W:Int)(S:Nat->LI):Prop:=oQ W c os S=[]/\dX (dg c os S) (c.length+1)=[]
def QG:bG:=λdd t=>∃(c:LI) (os:LL) (W:Int) (S:Nat->LI),fM c os W S/\dd=[fF c os,bA W os.length S]/\t=if Gd c os W S then tn else AQ W os.length (jz c os W S)
abbrev SV:List Str:=["table", "shares", "bottom", "market"]
abbrev uf:age:=top 33
theorem BG:aY SV ["table", "shares"] (az uf):=sk
abbrev xD (P:agc)(w:agd)(K:Frag)(mg:Str->Option vn)(base:Heap)(f:adV)(k:Nat):=jv P w K mg base SV "bettered" (az uf) f k
theorem OB (h1:Hv K G d1 tv)(h2:Hv K G d2 sv):aX K G [some (.fz d1),some (.fz d2),none,none] [some tv,some sv,o2,o3]:=λj d hj=>by
 match j,hj with
 |0,hj=>cases hj;exact⟨tv,rfl,h1⟩
 |1,hj=>cases hj;exact⟨sv,rfl,h2⟩
 |2,hj=>cases hj
 |3,hj=>cases hj
 |n+4,hj=>cases hj
theorem abJ {os:LL}:∃(x:Str) (ds':List Dv),er (ql W c os S)=.tup (ds x::ds')/\(V.str x=V.str "good"↔Gd c os W S):=by
 unfold ql;by_cases e:oQ W c os S=[]
 ·rw[e];by_cases q:dX (dg c os S) (c.length+1)=[]
  ·rw[uu q];exact⟨"good",_,rfl,λ_=>⟨e,q⟩,λ_=>rfl⟩
  ·rw[rf q];exact⟨"ring",_,rfl,λz=>absurd z 'Q',λz=>absurd z.2 q⟩
 ·obtain⟨t,l,et⟩:=List.exists_cons_of_ne_nil e;rw[et];exact⟨"left",_,rfl,λz=>absurd z 'Q',λz=>absurd z.1 e⟩
def adD (s:age):Expr:=match(dB s).getLast? with
 |some (.Return (some e) _)=>e
 |_=>.Constant .none 0 ⟨0,0,0,0⟩
theorem VZ (F:bN K "bettered" uf f fd)(T:Txt mg)(U:k6 K C)(CZ:Kn P w K mg base bx j1 "judged" f1 cG ["table", "shares"] (spT K Gq))(Ur:Kn P w K mg base bx j2 "bottom_of_all" f2 fd2 ["rows"] (spT K Mj))(mC:Kn P w K mg base bx j3 "fraction" f3 ra ["top", "bottom"] (spT K lJ))(zj:SU P w K mg base C j4 fi fdi ["self", "table", "shares", "bottom"] (PF K C))(DG:Km P w K mg base C "trade" j5 ft fdt ["self"] (PC K C))(j7:Km P w K mg base C "wanting" j6 fw RU ["self"] (gg K (Th K C) zW))(l1:j1<=k)(l2:j2<=k)(l3j:j3<=k)(l4:j4+1<=k)(l5:j5<=k)(l6:j6<=k):bM P w K mg base k f fd ["table", "shares"] QG:=by
 refine F.d.ok BG (λvs H Q E z9=>by obtain⟨G,dd,t,_,hv,hR,_⟩:=z9;obtain⟨_,_,_,_,_,rfl,_⟩:=hR;rw[<- hv.length];rfl) λaN A outer s H vs Q E hr h=>?_
 obtain⟨G,dd,t,sm,hv,⟨c,os,W,S,sh,rfl,rfl⟩,kv⟩:=h;obtain⟨tv,sv,rfl,ht,hs⟩:_:=p8 hv;have big:=cw;have c6:=sh.ok.c6;have o6:=sh.ok.o6;refine⟨_,dr (zo (vi (F:=xD P w K mg base f k) ⟨aN,A,outer,s,H,E,hr⟩) (gG (kl MB)) C2)
  (dr (iq (i:=2) BG.nd rfl (by first|exact Or.inl rfl|exact Or.inr rfl) (dR (F:=xD P w K mg base f k) ⟨aN,A,outer,s,H,E,hr⟩))
  (dr (iq (i:=3) BG.nd rfl (Or.inl rfl) (Y0 zj.m zj.ok (hr.mono l4) rfl zj.g zj.b .nil m8 (cm (pv 0) (cm (pv 1) (cm (pv 2) cR)))))
  (dr (Cv aeL (vi (F:=xD P w K mg base f k) ⟨aN,A,outer,s,H,E,hr⟩) (gG (lr (Cw (pv 3) U.cl DG.m DG.ok (hr.mono l5) DG.b .nil m8))))
  (gG (kl (dR (F:=xD P w K mg base f k) ⟨aN,A,outer,s,H,E,hr⟩)))))),?_⟩
 obtain⟨jx,jd,je,jg⟩:_:=abJ (c:=c) (os:=os) (W:=W) (S:=S);refine Py (abf (u:=.str jx) (v:=.str "good") (bF (aU CZ l1 (ag (ae 0 rfl) (ag (ae 1 rfl) ak)) ⟨c,os,W,S,sh.ok,sh.w0,sh.w1,sh.bO,rfl,rfl⟩) ai je (dh (j:=0) rfl)) yN rfl) sm (OB ht hs) λG1 H1 s1=>?_
 by_cases gd:Gd c os W S
 ·rw[uu (EO (jg.mpr gd))];rw[uu gd]at kv;exact kv .aW G1 H1 [] s1 ⟨rfl,rfl,rfl⟩ .nil
 rw[rf (by grind)];rw[rf gd]at kv;dsimp only[EI,eQ];obtain⟨b0,bd,bs⟩:_:=sM sh;refine vv (t:=ti (bZ W os.length S)) (aU Ur l2 (ag (ae 1 rfl) ak) ⟨W,(List.range os.length).map S,sh.w0,sh.w1,by grind,by rw[i4];rfl,rfl⟩) s1.s (OB (ht.mono s1.g) (hs.mono s1.g)) λbv G2 H2 s2 hb2=>?_
 obtain rfl:bv=.int (bZ W os.length S):=aO hb2;have kT:=s1.trans s2;dsimp only[eJ,eQ,List.set];generalize hB:bZ W os.length S=B at *;refine⟨_,rfl,_,rfl,_,rfl,λx dx hx hdx ne=>?_⟩;have bW:B<2^70:=by
  have:=afk sh.w0 bd;have:=sh.w1;lia
 have n1:upd H2 dx (.own x) x=none:=by rw[aQ ne.symm];exact hx
 have s3:Step G2 H2 G2 (upd (upd H2 dx (.own x)) x (.ins C dx [])):=nS s2.s ((aj.new hdx).trans (aj.new n1));have s13:=kT.trans s3;refine⟨G2,x,dx,tv,sv,c,os,W,B,S,rfl,s3.s,bQ,s2.s.free hx,ht.mono kT.g,hs.mono kT.g,⟨sh.ok,sh.w0,sh.w1,sh.bO,b0,bW⟩,λG4 H4 v1 o2 l3 o4 l5 r2 r4 X4 M4=>⟨rfl,?_⟩⟩;obtain⟨s4,F4⟩:=Mu s13 X4 λa ha=>by rw[BB.mp ha];exact kT.h.free hx
 have gx:=OA sh;rw[hB]at gx;have Wf:∀Hc Gc st (v1:V) o2 l3 o4 l5 r2 r4,Step G H Gc Hc->Mv K C st Gc Hc x dx v1 o2 l3 o4 l5 r2 r4->(∀a∈mF x o2 l3 o4 l5 r2 r4,H a=none)->st=cI c os W S->uE (xD P w K mg base f k) (adD uf) [some tv,some sv,some (.int B),some (.ref x)] Hc Q:=λHc Gc st v1 o2 l3 o4 l5 r2 r4 sc M hF e=>by
  subst e;obtain⟨⟨Gi,iv⟩,w0,eA,eM⟩:_:=yG sh;rw[hB]at iv;have q:=OR bd;have et:Tr.ow (((List.range os.length).filter λ_=>true).map λk=>Tr.ow ((bC (c.length+1) ((cI c os W S).s.got k)).map λg=>tF (lT g B,lB g B)))=AQ W os.length (jz c os W S):=by
   rw[aea.mpr λ_ _=>rfl];show Tr.ow _=Tr.ow _;congr 1;refine List.map_congr_left λa _=>?_
   unfold jz bC;rw[i4,i4,hB];congr 1;refine List.map_congr_left λy _=>?_
   show tF (lT _ B,lB _ B)=tF (fW W _);rw[rS sh.w0 'O'];rw[Int.mul_assoc,q]
  have b8:B.natAbs<2^8000:=by
   lia
  have gl:(((List.range (cI c os W S).A).map λa=>dis (bC (cI c os W S).M ((cI c os W S).s.got a)))).length=os.length:=by grind
  have nwF:Nw H Gc (mF x o2 l3 o4 l5 r2 r4):=⟨hF,M.g,M.nd⟩
  refine zf (Φ:=λG σ => gW K C (cI c os W S) 3 G σ/\aX K G [none,none,some (ti B),none] σ) (a8.to (se (own:=["row"]) (fr:=[2]) (λi=>cv) (λG σ h=>h.2) (uj (jK (C:=C) 3 U.cl U.n4 (λG σ h=>?_) (λi=>pv 3)) rfl) (bu 0 (λ_=>bT)) 'Q' (λ_=>true) (λk=>Tr.ow ((bC (c.length+1) ((cI c os W S).s.got k)).map λg=>tF (lT g B,lB g B))) (by rw[gl];lia) (λk d hd=>?_)) (by rw[gl];exact et)) (gk sc.s) ⟨⟨x,rfl,M.th⟩,λj d hj=>?_⟩ λv G7 H7 fq s7 ow7 Iy=>kv v G7 H7 fq ((sc.dM nwF).trans s7) ow7 ⟨λa ha=>sc.h.free (Iy.n a ha),Iy.g,Iy.d⟩
  ·obtain⟨⟨m,e,dx,v1,v2,v3,v4,v5,h0,h1,h2,h3,h4,h5⟩,_⟩:_:=h;exact⟨m,dx,_,v4,e,h0,rfl,h4⟩
  ·obtain⟨hk,rfl⟩:=yZ hd;rw[eM];exact⟨_,rfl,sD,λ_=>by exact fQ (own:=["parts"]) (fr:=[1]) (bC (c.length+1) ((cI c os W S).s.got k)) di (λg=>tF (lT g B,lB g B)) (λi=>zv ["row", "bottom"] ⟨rfl,'W','W','W','W'⟩ λy hy=>mE _ _ y hy) (cy (ae 0 rfl) rfl) (bu 0 (λ_=>bT)) 'Q' (by grind) (λg hg=>⟨_,rfl,by exact aU mC l3j (ag (ae 0 rfl) (ag (ae 1 rfl) ak)) ⟨g,B,b0,b8,rfl,rfl⟩⟩) (λdd=>by cases dd<;>rfl)⟩
  ·match j,hj with
   |0,hj=>cases hj
   |1,hj=>cases hj
   |2,hj=>cases hj;exact⟨_,rfl,rfl,rfl⟩
   |3,hj=>cases hj
   |n+4,hj=>cases hj
 refine⟨λmm σ Hc=>∃Gc st v1 o2 l3 o4 l5 r2 r4 n,mm=(af.mu st.A st.M st.s).toNat/\σ=[some tv,some sv,some (.int B),some (.ref x)]/\Step G H Gc Hc/\Mv K C st Gc Hc x dx v1 o2 l3 o4 l5 r2 r4/\(∀a∈mF x o2 l3 o4 l5 r2 r4,H a=none)/\Gx st B (fG c os.length) (cV W B S) c.length/\af.mu st.A st.M st.s<((n:Nat):Int)/\jy n st=cI c os W S,⟨_,G4,_,v1,o2,l3,o4,l5,r2,r4,fuel c os W S,rfl,rfl,s4,M4,F4,gx,?_,by rw[<- hB];rfl⟩,?_⟩
 ·unfold fuel;rw[hB];show af.mu os.length (c.length+1) _<_;lia
 intro mm σ Hc z9;obtain⟨Gc,st,v1,o2,l3,o4,l5,r2,r4,n,rfl,rfl,sc,M,hF,gx,lt,run⟩:_:=z9;refine Md (Φ:=gW K C st 3) (aay (tb':=.ow []) (λG G' σ e ⟨m,h1,h2⟩=>⟨m,h1,h2.mono e⟩) (xV (C:=C) (st:=st) 3 U.cl j7.m j7.ok l6 j7.b (QB (dd:=[]) "wanting" 'W') ⟨gx.A6,rfl,rfl⟩ (λi=>pv 3)) (Ev.p (ρ:=[]) (cf ak (AM _)) λG σ h j d hj=>by cases hj) (.inl ⟨_,_,bP _,rfl⟩) (by grind [bP,lu])) (gk sc.s) ⟨x,rfl,M.th⟩ λ_ H5 s5=>?_
 have M5:=M.keep s5.h;have Iz:=sc.trans (nS sc.s s5.h);rw[bP];show if(!bX (dis (iN (af.cW st.A st.s))) (.lst []))=true then _ else _
 rw[Qw];unfold iN;rw[List.isEmpty_map];have n1:∃n',n=n'+1:=by
  have:=FG st.A st.M st.s;exact⟨n-1,'O'⟩
 obtain⟨n',rfl⟩:=n1;by_cases hw:af.cW st.A st.s=[]
 ·rw[hw,rf 'Q'];unfold jy at run;rw[uu hw]at run;exact Wf H5 Gc st v1 o2 l3 o4 l5 r2 r4 Iz M5 hF run
 ·rw[uu 'J'];unfold jy at run;rw[rf hw]at run;refine⟨λaD H'=>∃Gc ah v1 o2 l3 o4 l5 r2 r4,af.mu ah.A ah.M ah.s<af.mu st.A st.M st.s/\aD=[some tv,some sv,some (.int B),some (.ref x)]/\Step G H Gc H'/\Mv K C ah Gc H' x dx v1 o2 l3 o4 l5 r2 r4/\(∀a∈mF x o2 l3 o4 l5 r2 r4,H a=none)/\Gx ah B (fG c os.length) (cV W B S) c.length/\jy n' ah=cI c os W S,?_,?_⟩
  ·intro aD H' z9;obtain⟨Gc,ah,v1,o2,l3,o4,l5,r2,r4,l,e,h1,h2,h3,h4,h5⟩:_:=z9;have:=FG ah.A ah.M ah.s;exact⟨_,'O',Gc,ah,v1,o2,l3,o4,l5,r2,r4,n',rfl,e,h1,h2,h3,h4,'O',h5⟩
  ·refine⟨_,rfl,x,dx,_,rfl,M5.i,rfl,Gc,x,st,dx,v1,o2,l3,o4,l5,r2,r4,rfl,Iz.s,M5,gx.go,hw,λG' H' fk gi p sx hp Mn=>?_⟩;obtain⟨sn,Fn⟩:=Mu Iz sx hF;obtain⟨g2,l2⟩:=gx.next hw hp
   rw[hp.uniq (PH gx.go hw)]at Mn g2 l2;exact⟨G',_,v1,o2,fk,o4,l5,gi,r4,l2,rfl,sn,Mn,Fn,g2,run⟩
end
section
theorem Kz (n:Nat)(o:LI):jn n o=(aJ n).filter λx=>!o.contains x:=by
 unfold jn aJ;rw[afs];rfl
def lD (p q:Int×Int):Bool:=decide (p.1*q.2<q.1*p.2)
def zk:bG:=λdd t=>∃p q:Int×Int,lC p/\lC q/\dd=[dF p,dF q]/\t=tb (lD p q)
theorem yl (h : 0<W):lD (fW W s) (fW W t)=decide (s<t):=by
 unfold lD;rw[af3];exact aca h
abbrev BH:age:=top 45
theorem Vx:aY ["_law_counts_here", "_law_order_here"] ["_law_counts_here", "_law_order_here"] (az BH):=sk
def EE:bG:=λdd t=>∃c o:LI,c.length<=6/\o.length<=6/\dd=[dis c,dis o]/\t=aA (aG c.length o)
theorem Vy (F:bN K "_law_full" BH f fd)(T:Txt mg):bM P w K mg base k f fd ["_law_counts_here", "_law_order_here"] EE:=by
 refine bR F.d Vx 'H' λdd t h=>?_
 obtain⟨c,o,c6,o6,rfl,rfl⟩:_:=h;have big:=cw;have lU:(((c.map di).length))=c.length:=by rw[aa]
 have rl:=B7 c.length o;refine ay (cu (bB.to (Ev.s (sy (sy (ae 1 rfl) (cf (ag (bY T.bU (ae 0 rfl) (.inl rfl)) ak) (by show 1<=sizeLine;decide)) rfl rfl ?_) (sF (own:=["_law_one"]) (fr:=[1]) (aJ c.length) di (λx=>!o.contains x) ti (λi=>cv) (bb.to (gj T.eG (bY T.bU (ae 0 rfl) (.inl rfl)) (by rw[lU];lia)) ?_) (bu 0 (λ_=>bT)) 'Q' (by rw[lq];lia) (λx hx=>⟨_,rfl,jj (nU (ae 0 rfl) (ae 1 rfl) rfl (by with_unfolding_all rfl)),λ_=>ae 0 rfl⟩) (λdd=>by cases dd<;>rfl)) (fP _) (bP _) ?_)) ?_))
 ·show(o.map di).length+1<=sizeLine;rw[aa];lia
 ·simp_all [aJ]
 ·rw[<- Kz];show((o.map di)++[di _]).length+((jn c.length o).map di).length<=sizeLine
  grind
 ·rw[<- Kz,lU];unfold aG;show Tr.ow ((((o.map di)++[di _])++((jn c.length o).map di)).map .fz)=Tr.ow ((o++[(c.length:Int)]++jn c.length o).map _);simp[i4]
  rfl
abbrev BI:age:=top 46
theorem Vz:aY ["_law_one", "_law_other"] ["_law_one", "_law_other"] (az BI):=sk
theorem VA (F:bN K "_law_plus" BI f fd)(T:Txt mg)(t7:a9 P w K mg base (k+1) "_law_lowest" f1 cG ["_law_top", "_law_bottom"] lJ):bM P w K mg base (k+2) f fd ["_law_one", "_law_other"] vp:=by
 refine bR F.d Vz 'H' λdd t h=>?_
 obtain⟨p,q,⟨p1,p2,p3⟩,⟨q1,q2,q3⟩,rfl,rfl⟩:_:=h;have jX:∀r:Int×Int,aF [di r.1,di r.2] 0=some (di r.1):=λ_=>rfl
 have jY:∀r:Int×Int,aF [di r.1,di r.2] 1=some (di r.2):=λ_=>rfl
 exact ay (cu (Ev.s (aU t7 (br _) (ag (fA (km (bF (ae 0 rfl) ai rfl (jX p)) (bF (ae 1 rfl) ai rfl (jY q)) ⟨fR p3 'Q',fR q2 'Q'⟩) (km (bF (ae 1 rfl) ai rfl (jX q)) (bF (ae 0 rfl) ai rfl (jY p)) ⟨fR q3 'Q',fR p2 'Q'⟩)) (ag (km (bF (ae 0 rfl) ai rfl (jY p)) (bF (ae 1 rfl) ai rfl (jY q)) ⟨fR p2 'Q',fR q2 'Q'⟩) ak)) ⟨_,_,Int.mul_pos p1 q1,fR (NT p2 q2) 'Q',rfl,rfl⟩)))
abbrev Bz:age:=top 47
theorem U8:aY ["_law_one", "_law_other"] ["_law_one", "_law_other"] (az Bz):=sk
theorem U9 (F:bN K "_law_under" Bz f fd)(T:Txt mg):bM P w K mg base k f fd ["_law_one", "_law_other"] zk:=by
 refine bR F.d U8 'H' λdd t h=>?_
 obtain⟨p,q,⟨p1,p2,p3⟩,⟨q1,q2,q3⟩,rfl,rfl⟩:_:=h;have jX:∀r:Int×Int,aF [di r.1,di r.2] 0=some (di r.1):=λ_=>rfl
 have jY:∀r:Int×Int,aF [di r.1,di r.2] 1=some (di r.2):=λ_=>rfl
 exact ay (cu (Ev.s (EX (km (bF (ae 0 rfl) ai rfl (jX p)) (bF (ae 1 rfl) ai rfl (jY q)) ⟨fR p3 'Q',fR q2 'Q'⟩) (km (bF (ae 1 rfl) ai rfl (jX q)) (bF (ae 0 rfl) ai rfl (jY p)) ⟨fR q3 'Q',fR p2 'Q'⟩))))
abbrev Bn:age:=top 53
theorem xJ:aY ["_law_shares", "_law_one", "_law_total", "_law_row"] ["_law_shares", "_law_one"] (az Bn):=sk
theorem UH (F:bN K "_law_column" Bn f fd)(T:Txt mg)(BJ:a9 P w K mg base (k+2) "_law_plus" f1 cG ["_law_one", "_law_other"] vp):bM P w K mg base (k+3) f fd ["_law_shares", "_law_one"] vd:=by
 refine bR F.d xJ 'H' λdd t h=>?_
 obtain⟨W,n,A,S,x,w0,w1,bO,a6,x0,x1,rfl,rfl⟩:_:=h;obtain⟨ss,SW⟩:∃ss,ss=(List.range A).map λa=>cj (S a) x:=⟨_,rfl⟩
 have sb:∀s∈ss,0<=s/\s<=W:=λs hs=>by
  rw[SW]at hs;obtain⟨a,ha,rfl⟩:=i8.mp hs;exact ph (bO a (l9.mp ha)) x
 have sl:ss.length=A:='J'
 refine aq (aT 2 (bB.to (t':=tF (fW W (ss.take 0).sum)) (Ev.s (kg (ag ai (ag ai ak)) rfl 'Q')) (by show tF (0,1)=tF (fW W 0);rw[rT w0])) (λ_=>xJ.nd)) ?_;refine aq (dY (bb.s (cy (ae 0 rfl) rfl)) (bu 3 (λ_=>xJ.nd)) (λj=>[some (.fz (bA W A S)),some (ti x),some (tF (fW W (ss.take j).sum)),none]) rfl (λ_=>rfl) (λj d hd=>?_)) ?_
 ·obtain⟨a,ha,rfl⟩:=gn hd;have ja:a=j:=by
   grind
  subst ja;have hj:a<A:=by grind
  have hx:ss[a]?=some (cj (S a) x):='J'
  have hb:=sb _ (ba hx);have ht:=yj sb w0 a;have adk:(a)*W<=200*W:=Me 'O' 'O';refine⟨_,[some (.fz (bA W A S)),some (ti x),some (tF (fW W (ss.take (a+1)).sum)),some (.fz (dD W (S a)))],rfl,?_,[3],rfl⟩;rw[kc hx,aeo,afG];generalize (ss.take a).sum=s0 at ht;exact ay (aT 2 (bB.to (t':=tF (fW W (s0+cj (S a) x))) (Ev.s (aU BJ (br _) (ag (ae 2 rfl) (ag (bj (ae 3 rfl) (ae 1 rfl) rfl (rowAt (bO a hj) x0 x1)) ak)) ⟨fW W s0,fW W (cj (S a) x),pU w0 w1 ht.1 'O',pU w0 w1 hb.1 'O',rfl,rfl⟩)) (by rw[Dh w0])) (λ_=>xJ.nd))
 ·rw[aa,vc,List.take_of_length_le 'O'];exact ay (cu (bB.to (Ev.s (ae 2 rfl)) (by unfold gO;rw[SW])))
theorem acz (h : 0<W)(s0 : 0<=s):decide (0<(fW W s).1)=decide (0<s):=by
 have c:=jb (s:=s) h;have p:=gq (s:=s) h;have n:=JF h s0
 grind [rT,Int.mul_pos]
abbrev nLW:List Str:=["_law_counts_here", "_law_orders_here", "_law_shares", "_law_found", "_law_asker", "_law_full_here", "_law_k"]
abbrev Bo:age:=top 55
theorem rD:aY nLW ["_law_counts_here", "_law_orders_here", "_law_shares"] (az Bo):=sk
def OC:bG:=λdd t=>∃(c:LI) (os:LL) (W:Int) (S:Nat->LI),eK c os/\0<W/\(∀a,a<os.length->fD W c.length (S a))/\dd=[dis c,.lst (os.map dis),bA W os.length S]/\t=.fz (gF (cE c.length os S os.length))
theorem WC (F:LI)(h:i<=F.length):(List.range i).map (λj=>F.getD j 0)=F.take i:=by
 refine OE λj=>?_
 grind
theorem UI (F:bN K "_law_wishes" Bo f fd)(T:Txt mg)(BK:a9 P w K mg base k "_law_full" f1 cG ["_law_counts_here", "_law_order_here"] EE):bM P w K mg base (k+1) f fd ["_law_counts_here", "_law_orders_here", "_law_shares"] OC:=by
 refine bR F.d rD 'H' λdd t h=>?_
 obtain⟨c,os,W,S,ok,w0,bO,rfl,rfl⟩:_:=h;have big:=cw;have o6:=ok.o6;have c6:=ok.c6;have fl:∀o∈os,(aG c.length o).length<=7:=λo ho=>(nc c6 (ok.nd o ho) (ok.bK o ho)).1
 refine aq (aT 3 (Ev.s (Ev.as (d:=gF []) (cf ak (AM _)) rfl)) (λ_=>rD.nd)) ?_;have rl:((ju 0 (((os.map dis).length:Nat):Int).toNat)).length=os.length:='J'
 refine aq (dY (bb.s (gj T.eG (bY T.bU (ae 1 rfl) (.inl rfl)) ⟨'O',by grind⟩)) (bu 4 (λ_=>rD.nd)) (λk=>[some (.fz (dis c)),some (.fz (.lst (os.map dis))),some (.fz (bA W os.length S)),some (.fz (gF (cE c.length os S k))),none,none,none]) rfl (λ_=>rfl) (λa d hd=>?_)) ?_
 ·obtain⟨ha,rfl⟩:=mP hd;rw[aa]at ha;have hj:a<os.length:='O'
  rw[ad5];obtain⟨o,xg⟩:∃o,os[a]?=some o:=⟨_,ab hj⟩
  have og:os.getD a []=o:='J'
  have om:=ba xg;have f7:=fl o om;have R:=bO a hj;have tP:=ok.gN om;have wa:=pj S fl a 'O';have xE:aF (os.map dis) ((a:Nat):Int)=some (dis o):=dh 'J';have sat:aF ((List.range os.length).map λa=>dD W (S a)) ((a:Nat):Int)=some (dD W (S a)):=dh 'J';have fl2:((ju 0 ((((aG c.length o).map di).length:Nat):Int).toNat)).length=(aG c.length o).length:='J'
  refine⟨_,_,rfl,aq (aT 5 (Ev.s (Ev.as (d:=dis (aG c.length o)) (aU BK (br _) (ag (ae 0 rfl) (ag (bj (ae 1 rfl) (ae 4 rfl) rfl xE) ak)) ⟨c,o,c6,tP,rfl,rfl⟩) (bP _))) (λ_=>rD.nd)) (ay (dY (bb.s (gj T.eG (bY T.bU (ae 5 rfl) (.inl rfl)) ⟨'O',by grind⟩)) (bu 6 (λ_=>rD.nd)) (λi=>[some (.fz (dis c)),some (.fz (.lst (os.map dis))),some (.fz (bA W os.length S)),some (.fz (gF (cE c.length os S a++wJ c.length o (S a) a i))),some (ti a),some (.fz (dis (aG c.length o))),none]) ?_ (λ_=>rfl) (λi d hd=>?_))),[4,5],?_⟩
  ·show[_,_,_,some (Tr.fz (gF (cE c.length os S a++[]))),_,_,_]=_;rw[AS];rfl
  ·obtain⟨hi,rfl⟩:=mP hd;rw[aa]at hi;have il:i<(aG c.length o).length:='O'
   rw[ad5];have hb:=yi il;generalize wm:(aG c.length o).getD i 0=b at hb;have bm:=(jc (ok.bK o om)).mp (ba hb);have SX:aF ((aG c.length o).map di) ((i:Nat):Int)=some (di b):=dh 'J';have wj:=yX c.length o (S a) a i;have ti7:=Gp (m:=i) 'O';have tk:=ph R b;have a0:aF [di (fW W (cj (S a) b)).1,di (fW W (cj (S a) b)).2] 0=some (di (fW W (cj (S a) b)).1):=rfl;refine⟨_,_,rfl,ay (vh (p:=decide (0<cj (S a) b)) (fI.to (Et.s (kx (bF (bj (bj (ae 2 rfl) (ae 4 rfl) rfl sat) (bj (ae 5 rfl) (ae 6 rfl) rfl SX) rfl (rowAt R bm.1 bm.2)) ai rfl a0) ai)) (acz w0 tk.1)) (λh=>bt.to (ay (aT 3 (Ev.s (Ev.as (d:=gF (cE c.length os S a++wJ c.length o (S a) a (i+1))) (sy (xs:=(cE c.length os S a++wJ c.length o (S a) a i).map λt=>dT (l3 t)) (ae 3 rfl) (fQ (own:=["_law_j"]) (fr:=[4,5,6]) (List.range i) (λj=>di ((j:Nat):Int)) (λj=>.fz (dT [(a:Int),(aG c.length o).getD j 0,b])) (λi=>cv) (bb.to (gj T.eG (ae 6 rfl) ⟨'O','O'⟩) ?_) (bu 0 (λ_=>bT)) 'Q' (by grind) (λj hj=>⟨_,rfl,?_⟩) (λdd=>by cases dd<;>rfl)) rfl (fu ..) ?_) ?_)) (λ_=>rD.nd))) rfl) (λh=>bt.to mN ?_)),[6],rfl⟩
   ·simp_all
   ·have oP:=l9.mp hj;have jat:aF ((aG c.length o).map di) ((j:Nat):Int)=some (di ((aG c.length o).getD j 0)):=dh (by grind);exact kg (dd:=[di a,di ((aG c.length o).getD j 0),di b]) (ag (ae 1 rfl) (ag (bj (ae 2 rfl) (ae 0 rfl) rfl jat) (ag (bj (ae 2 rfl) (ae 3 rfl) rfl SX) ak))) rfl (by grind)
   ·grind
   ·have AI:¬cj (S a) b=0:=by grind
    rw[fP,uK,wm,rf AI,<- CS];show Dv.lst _=Dv.lst _;rw[BN (l₂:=((aG c.length o).take i).map _),<- WC _ 'O',i4,i4]
    rfl
   ·have AI:cj (S a) b=0:='O'
    rw[uK,wm,uu AI,AS]
    rfl
  ·show[_,_,_,some (Tr.fz (gF _)),_,_,_]=_;rw[Cr,og,fl2]
 ·rw[rl];exact ay (cu (Ev.s (ae 3 rfl)))
theorem JQ {α:Type}(p : α->Bool){ts:List α}{t : α}(h:ts[j]?=some t):(ts.take (j+1)).filter p=(ts.take j).filter p++if p t=true then [t]else []:=by
 rw[kc h,aej]
 grind
theorem Mw (w0 : 0<W)(bO:∀a,a<A->fD W n (S a))(a6:A<=6)(x:Int) : 0<=gO A S x/\gO A S x<=200*W:=by
 have sb:∀s∈(List.range A).map (λa=>cj (S a) x),0<=s/\s<=W:=λs hs=>by
  obtain⟨a,ha,rfl⟩:=i8.mp hs;exact ph (bO a (l9.mp ha)) x
 have h:=yj sb w0 A;rw[List.take_of_length_le 'J']at h;have h2:(A)*W<=200*W:=Me 'O' 'O';exact⟨h.1,agb h.2 h2⟩
def mj (W:Int)(c:LI)(A:Nat)(S:Nat->LI)(t:Int×Int×Int):Bool:=decide (t.2.1=(c.length:Int))||decide (gO A S t.2.1<c.getD t.2.1.toNat 0*W)
abbrev nLL:List Str:=["_law_counts_here", "_law_shares", "_law_wishes_here", "_law_found", "_law_asker", "_law_better_here", "_law_one"]
abbrev BL:age:=top 56
theorem BA:aY nLL ["_law_counts_here", "_law_shares", "_law_wishes_here"] (az BL):=sk
def PJ:bG:=λdd t=>∃(c:LI) (W:Int) (A:Nat) (S:Nat->LI) (ts:List (Int×Int×Int)),c.length<=6/\(∀x∈c,0<=x/\x<=9)/\0<W/\W<2^70/\(∀a,a<A->fD W c.length (S a))/\A<=6/\ts.length<=126/\(∀t∈ts,0<=t.2.1/\t.2.1<=c.length)/\dd=[dis c,bA W A S,gF ts]/\t=tW (ts.filter (mj W c A S))
theorem VB (F:bN K "_law_left" BL f fd)(T:Txt mg)(Bp:a9 P w K mg base (k+3) "_law_column" f1 cG ["_law_shares", "_law_one"] vd)(rG:a9 P w K mg base k "_law_under" f2 fd2 ["_law_one", "_law_other"] zk):bM P w K mg base (k+4) f fd ["_law_counts_here", "_law_shares", "_law_wishes_here"] PJ:=by
 refine bR F.d BA 'H' λdd t h=>?_
 obtain⟨c,W,A,S,ts,c6,c9,w0,w1,bO,a6,tl,tr,rfl,rfl⟩:_:=h;have big:=cw;refine aq (aT 3 (bB.to (t':=tW ((ts.take 0).filter (mj W c A S))) (Ev.s (cf ak (AM _))) rfl) (λ_=>BA.nd)) ?_;refine aq (dY (bb.s (cy (ae 2 rfl) rfl)) (uU 4 5 6 (λ_=>BA.nd)) (λj=>[some (.fz (dis c)),some (.fz (bA W A S)),some (.fz (gF ts)),some (tW ((ts.take j).filter (mj W c A S))),none,none,none]) rfl (λ_=>rfl) (λj d hd=>?_)) ?_
 ·obtain⟨t,ht,rfl⟩:=gn hd;have tm:=ba ht;obtain⟨t0,t1⟩:=tr t tm;have cb:=Mw w0 bO a6 t.2.1;have fl:=WA (mj W c A S) (ts.take j);rw[Lm]at fl;refine⟨_,_,rfl,ay (vh (o:=.nx [some (.fz (dis c)),some (.fz (bA W A S)),some (.fz (gF ts)),some (tW ((ts.take (j+1)).filter (mj W c A S))),some (ti t.1),some (ti t.2.1),some (ti t.2.2)]) (p:=mj W c A S t) (Et.s (Ew.et (gY (Et.to (gX (ae 5 rfl) (bY T.bU (ae 0 rfl) (.inl rfl))) (by rw[aa])) λhp=>(ko ?_)))) (λh=>bt.to (ay (iQ 3 rfl (Ev.s (kg (ag (ae 4 rfl) (ag (ae 5 rfl) (ag (ae 6 rfl) ak))) rfl (by show 3<=sizeLine;decide))) (by rw[aa];lia))) ?_) (λh=>bt.to mN ?_)),[4,5,6],rfl⟩
  ·have hn:=afF hp;have hl:t.2.1.toNat<c.length:='O'
   have hc:c[t.2.1.toNat]?=some (c.getD t.2.1.toNat 0):=by rw[ir,ab hl];rfl
   have hb:=c9 _ (ba hc);have SY:aF (c.map di) t.2.1=some (di (c.getD t.2.1.toNat 0)):=by
    rw[show t.2.1=((t.2.1.toNat)) by lia];exact dh (by rw[l8,BY,hc];rfl)
   generalize c.getD t.2.1.toNat 0=cx at hb SY;have sm:lC (cx,1):=⟨Int.one_pos,show(1:Int).natAbs<2^90 by decide,LP (show cx.natAbs<=9 by lia) 'Q'⟩
   refine Et.to (fO (aU rG (by show k+1<=k+4;lia) (ag (aU Bp (br _) (ag (ae 1 rfl) (ag (ae 5 rfl) ak)) ⟨W,c.length,A,S,t.2.1,w0,w1,bO,a6,t0,t1,rfl,rfl⟩) (ag (pI (ag (bj (ae 0 rfl) (ae 5 rfl) rfl SY) (ag ai ak)) (by show 2<=sizeLine;decide)) ak)) ⟨fW W (gO A S t.2.1),(cx,1),pU w0 w1 cb.1 cb.2,sm,rfl,rfl⟩)) ?_;rw[(Fv cx).symm.trans (Ob w0),yl w0]
  ·rw[JQ _ ht,uu h];show Out.nx [_,_,_,some (Tr.ow _),_,_,_]=Out.nx [_,_,_,some (Tr.ow _),_,_,_];rw[BN];rfl
  ·rw[JQ _ ht,rf (by rw[h];exact AL),AS];rfl
 ·rw[aa,aef];exact ay (kh 3 rfl)
theorem yo {s:Int}{m:Nat}(h : 0<W)(w1:W<2^70)(s0 : 0<=s)(s1:s<=m*W)(hm:m<=100):lC (fW W s):=by
 have a:=gq (s:=s) h;have b:=Fe (s:=s) h;have c:=Eb (s:=s) h;have d:(m)*W<=100*2^70:=Int.mul_le_mul 'O' 'O' 'O' 'Q';refine⟨a,?_,?_⟩
 ·lia
 ·lia
def lW (W:Int)(aK full:LI)(k:Nat):List Tr:=(List.range k).map λj=>tF (fW W (bH aK full (j+1)))
theorem XA (W:Int)(aK full:LI)(k:Nat):lW W aK full (k+1)=lW W aK full k++[tF (fW W (bH aK full (k+1)))]:=by
 grind [lW,List.range_succ]
def PK (t1 t2 full:LI):List Bool:=(List.range full.length).map λk=>decide (bH t1 full (k+1)<bH t2 full (k+1))
def zJ (t1 t2 full:LI):Bool:=!(PK t1 t2 full).any id
theorem KA:zJ t1 t2 full=true↔∀k,k<full.length->bH t2 full (k+1)<=bH t1 full (k+1):=by
 unfold zJ PK
 simp_all
def ny (W:Int)(aK full:LI)(k:Nat):List (Int×Int):=(List.range k).map λj=>fW W (bH aK full (j+1))
theorem DH (W:Int)(aK full:LI)(k:Nat):er (.ow (lW W aK full k))=.lst ((ny W aK full k).map dF):=by
 unfold lW ny;rw[fu,i4];rfl
theorem aaz (W:Int)(t1 t2 full:LI)(m:Nat):iV ((ny W t1 full m).map dF) ((ny W t2 full m).map dF)=(List.range m).map λj=>.tup [dF (fW W (bH t1 full (j+1))),dF (fW W (bH t2 full (j+1)))]:=by
 simp_all [ny,iV]
theorem JR (h:fD W n aK)(hm:m<=100):lC (fW W (bH aK full m)):=by
 obtain⟨a,b⟩:=Dw h full m;exact yo h.w0 h.w1 a b hm
abbrev BM:age:=top 48
theorem ub:aY ["_law_counts_here", "_law_order_here", "_law_row", "_law_total", "_law_found", "_law_one"] ["_law_counts_here", "_law_order_here", "_law_row"] (az BM):=sk
def EF:bG:=λdd t=>∃(c o:LI) (W:Int) (aK:LI),c.length<=6/\o.length<=6/\(∀x∈o,0<=x/\x<c.length)/\fD W c.length aK/\dd=[dis c,dis o,dD W aK]/\t=.ow (lW W aK (aG c.length o) (aG c.length o).length)
theorem VC (F:bN K "_law_sums" BM f fd)(T:Txt mg)(BK:a9 P w K mg base k "_law_full" f1 cG ["_law_counts_here", "_law_order_here"] EE)(BJ:a9 P w K mg base (k+2) "_law_plus" f2 fd2 ["_law_one", "_law_other"] vp):bM P w K mg base (k+3) f fd ["_law_counts_here", "_law_order_here", "_law_row"] EF:=by
 refine bR F.d ub 'H' λdd t h=>?_
 obtain⟨c,o,W,aK,c6,o6,adE,ok,rfl,rfl⟩:_:=h;have big:=cw;have fl:=Yt (n:=c.length) o;have fin:=Z9 adE;have w0:=ok.w0;have e0:(0,1)=fW W (bH aK (aG c.length o) 0):=(rT w0).symm;refine aq (aT 3 (bB.to (t':=tF (fW W (bH aK (aG c.length o) 0))) (Ev.s (kg (dd:=[di 0,di 1]) (ag ai (ag ai ak)) rfl (by grind))) (by grind)) (λ_=>ub.nd)) ?_;refine aq (aT 4 (Ev.s (cf ak (AM _))) (λ_=>ub.nd)) ?_;refine aq (dY (bb.s (cy (aU BK (by show k+1<=k+3;lia) (ag (ae 0 rfl) (ag (ae 1 rfl) ak)) ⟨c,o,c6,o6,rfl,rfl⟩) (bP _))) (bu 5 (λ_=>ub.nd)) (λk=>[some (.fz (dis c)),some (.fz (dis o)),some (.fz (dD W aK)),some (tF (fW W (bH aK (aG c.length o) k))),some (.ow (lW W aK (aG c.length o) k)),none]) rfl (λ_=>rfl) (λj d hd=>?_)) ?_
 ·obtain⟨x,hx,rfl⟩:=gn hd;obtain⟨x0,x1⟩:=fin x (ba hx);have hj:j<(aG c.length o).length:=by
   grind
  obtain⟨s0,s1⟩:=Dw ok (aG c.length o) j;obtain⟨t0,t1⟩:=ph ok x;have pl:(lW W aK (aG c.length o) j).length=j:=by grind [lW]
  rw[XA,xW hx];generalize bH aK (aG c.length o) j=S at s0 s1;have sm1:=yo w0 ok.w1 s0 s1 'O';have sm2:=yo (m:=1) w0 ok.w1 t0 'O' 'Q';exact⟨_,_,rfl,aq (aT 3 (bB.to (t':=tF (fW W (S+cj aK x))) (Ev.s (aU BJ (br _) (ag (ae 3 rfl) (ag (bj (ae 2 rfl) (ae 5 rfl) rfl (rowAt ok x0 x1)) ak)) ⟨fW W S,fW W (cj aK x),sm1,sm2,rfl,rfl⟩)) (by rw[Dh w0])) (λ_=>ub.nd)) (ay (iQ 4 rfl (Ev.s (ae 3 rfl)) 'O')),[5],rfl⟩
 ·rw[aa];exact ay (kh 4 rfl)
abbrev Ba:age:=top 49
theorem IW:aY ["_law_mine", "_law_theirs", "_law_here", "_law_there"] ["_law_mine", "_law_theirs"] (az Ba):=sk
def Mx:bG:=λdd t=>∃(W:Int) (n:Nat) (t1 t2 full:LI),full.length<=99/\fD W n t1/\fD W n t2/\dd=[.lst ((ny W t1 full full.length).map dF),.lst ((ny W t2 full full.length).map dF)]/\t=tb (zJ t1 t2 full)
def S0:Dv->Bool
 | .tup [.tup [.fl (.int a),.fl (.int b)],.tup [.fl (.int c),.fl (.int e)]] => !lD (a,b) (c,e)
 |_=>true
theorem Us {f f1:adV}{fd cG:FuncData}{k:Nat}(F:bN K "_law_no_less" Ba f fd)(T:Txt mg)(rG:a9 P w K mg base k "_law_under" f1 cG ["_law_one", "_law_other"] zk):bM P w K mg base (k+1) f fd ["_law_mine", "_law_theirs"] Mx:=by
 refine bR F.d IW 'H' λdd t h=>?_
 obtain⟨W,n,t1,t2,full,hf,k1,k2,rfl,rfl⟩:_:=h;have QH:((List.range full.length).map λj=>Dv.tup [dF (fW W (bH t1 full (j+1))),dF (fW W (bH t2 full (j+1)))]).all S0=zJ t1 t2 full:=by
  rw[af4,KA,aee]
  constructor
  ·intro h j hj;have h':(!lD (fW W (bH t1 full (j+1))) (fW W (bH t2 full (j+1))))=true:=h _ (i8.mpr ⟨j,l9.mpr hj,rfl⟩);rw[yl k1.w0,ae0,aeR]at h';lia
  ·intro h d hd;obtain⟨j,hj,rfl⟩:=i8.mp hd;show(!lD (fW W (bH t1 full (j+1))) (fW W (bH t2 full (j+1))))=true;have:=h j (l9.mp hj);rw[yl k1.w0,ae0,aeR];lia
 refine uq (t:=tb false) (bb.s (bb.to (Lh T.Fp (ae 0 rfl) (ae 1 rfl) rfl rfl) (aaz W t1 t2 full full.length))) (iT 2 3 (λ_=>IW.nd)) rfl S0 (λd hd=>?_) (λh=>?_) (λh=>?_)
 ·obtain⟨j,hj,rfl⟩:=i8.mp hd;have oP:=l9.mp hj;have s1:lC (fW W (bH t1 full (j+1))):=JR k1 'O';have s2:lC (fW W (bH t2 full (j+1))):=JR k2 'O';generalize fW W (bH t1 full (j+1))=p at s1;generalize fW W (bH t2 full (j+1))=q at s2;refine⟨_,rfl,λh=>⟨_,ay (cQ (Et.s (fO (aU rG (br _) (ag (ae 2 rfl) (ag (ae 3 rfl) ak)) ⟨p,q,s1,s2,rfl,rfl⟩))) ?_),[2,3],rfl⟩,λh=>?_⟩
  ·have h':(!lD p q)=true:=h
   revert h';cases lD p q<;>decide
  ·have h':(!lD p q)=false:=h;exact ay (jM (Et.s (fO (aU rG (br _) (ag (ae 2 rfl) (ag (ae 3 rfl) ak)) ⟨p,q,s1,s2,rfl,rfl⟩))) (by revert h';cases lD p q<;>decide) (ay (cu (Ev.s vg))))
 ·rw[QH]at h;rw[h];exact ay (cu (Ev.s vg))
 ·rw[QH]at h;rw[h]
abbrev BC:age:=top 51
theorem Va:aY ["_law_found"] ["_law_found"] (az BC):=sk
def OD:bG:=λdd t=>∃n:Int,dd=[di n]/\t=tb true
theorem Vb (F:bN K "_law_whole" BC f fd)(T:Txt mg):bM P w K mg base k f fd ["_law_found"] OD:=by
 refine bR F.d Va 'H' λdd t h=>?_
 obtain⟨n,rfl,rfl⟩:=h;exact ay (cu (Ev.s (Ev.to (yQ (mY T.mw T.Fo DT (ae 0 rfl) (by with_unfolding_all rfl)) λ_=>(sC (MV (p:=false) (mY T.mw T.NS Lc (ae 0 rfl) (by with_unfolding_all rfl))))) rfl)))
end
section
theorem KC {n:Nat}{o:LI}(n6:n<=6)(nd:o.Nodup)(bK:∀x∈o,0<=x/\x<n):((aG n o).map Int.toNat).Perm (List.range (n+1)):=by
 have nf:=(nc n6 nd bK).2;have mem:=λx=>jc (x:=x) bK
 refine(aat ?_ aeh).mpr λx=>?_
 ·grind [List.Pairwise.imp_of_mem]
 ·rw[l9]
  constructor
  ·grind
  ·intro hx;exact i8.mpr ⟨(x),(mem _).mpr ⟨'O','O'⟩,'Y'⟩
theorem aaA {n:Nat}{o:LI}(n6:n<=6)(nd:o.Nodup)(bK:∀x∈o,0<=x/\x<n)(hl:aK.length=n+1):bH aK (aG n o) (aG n o).length=aK.sum:=by
 have e:=af.Ei (KC n6 nd bK) λx=>aK.getD x 0
 rw[Oy hl]at e;rw[<- e];unfold bH af.sl;rw[aef,i4];rfl
theorem YR (h : 0<W):(lT (fW W s).1 (fW W s).2,lB (fW W s).1 (fW W s).2)=fW W s:=rS h (by have:=gq (s:=s) h;lia) (jb h)
theorem abK (h : 0<W):fW W W=(1,1):=by
 rw[<- rS (t:=1) (b:=1) h 'Q' 'O']
 rfl
abbrev Bq:age:=top 52
theorem I0:aY ["_law_row", "_law_many", "_law_share"] ["_law_row", "_law_many"] (az Bq):=sk
def OG:bG:=λdd t=>∃(W:Int) (n:Nat) (aK:LI),n<=6/\fD W n aK/\aK.sum=W/\dd=[dD W aK,di n]/\t=tb true
theorem UJ (F:bN K "_law_is_row" Bq f fd)(T:Txt mg)(Jf:a9 P w K mg base k "_law_whole" f1 cG ["_law_found"] OD)(t7:a9 P w K mg base (k+1) "_law_lowest" f2 fd2 ["_law_top", "_law_bottom"] lJ)(xN:a9 P w K mg base (k+3) "_law_sums" f3 ra ["_law_counts_here", "_law_order_here", "_law_row"] EF):bM P w K mg base (k+4) f fd ["_law_row", "_law_many"] OG:=by
 refine bR F.d I0 'H' λdd t h=>?_
 obtain⟨W,n,aK,n6,ok,adF,rfl,rfl⟩:_:=h;have w0:=ok.w0;have hl:=ok.len;refine aq (cQ (Et.s (Ew.et (gY (ji (fO (mY (bo:=true) T.mw T.gH rP (ae 0 rfl) (by with_unfolding_all rfl)))) λ_=>(ko (sS (bY T.bU (ae 0 rfl) (.inl rfl)) (fA (ae 1 rfl) ai)))))) ?_) ?_
 ·simp_all
 refine uq (t:=tb false) (bb.s (cy (ae 0 rfl) rfl)) (bu 2 (λ_=>I0.nd)) rfl (λ_=>true) (λd hd=>?_) (λ_=>?_) (λh=>?_)
 ·obtain⟨p,hp,rfl⟩:=i8.mp hd;obtain⟨s,hs,rfl⟩:=i8.mp hp;have b:=ok.t0 s hs;have low:=YR (s:=s) w0;have q0:=JF w0 b.1;have q1:=gq (s:=s) w0;have sm:=yo (m:=1) w0 ok.w1 b.1 'O' 'Q';generalize fW W s=p at low q0 q1 sm;obtain⟨p1,p2⟩:=p;have a0:aF [di p1,di p2] 0=some (di p1):=rfl;have a1:aF [di p1,di p2] 1=some (di p2):=rfl;refine⟨_,rfl,λ_=>⟨_,aq (cQ (Et.s (Ew.et (gY (ji (fO (mY (bo:=true) T.mw T.LR J0 (ae 2 rfl) (by with_unfolding_all rfl)))) λ_=>(gY (sS (bY T.bU (ae 2 rfl) (.inr rfl)) ai) λ_=>(gY (ji (fO (aU Jf (by show k+1<=k+4;lia) (ag (bF (ae 2 rfl) ai rfl a0) ak) ⟨p1,rfl,rfl⟩))) λ_=>(ko (ji (fO (aU Jf (by show k+1<=k+4;lia) (ag (bF (ae 2 rfl) ai rfl a1) ak) ⟨p2,rfl,rfl⟩))))))))) rfl) (ay (cQ (Et.s (Ew.et (gY (pQ (bF (ae 2 rfl) ai rfl a0) ai) λ_=>(gY (pQ (bF (ae 2 rfl) ai rfl a1) ai) λ_=>(ko (kn (aU t7 (by show k+2<=k+4;lia) (ag (bF (ae 2 rfl) ai rfl a0) (ag (bF (ae 2 rfl) ai rfl a1) ak)) ⟨p1,p2,q1,fR sm.2.1 'Q',rfl,rfl⟩) (ae 2 rfl) (.inr ⟨_,_,rfl,rfl⟩) (Cs (vb _) 'Q'))))))) ?_)),[2],rfl⟩,λh=>by cases h⟩;show(decide (p1<0)||(decide (p2<1)||!bX (dF (lT p1 p2,lB p1 p2)) (dF (p1,p2))))=false;rw[low,ur (NV _),LF 'O',LF 'O'];rfl
 ·have fl:(aG n []).length=n+1:=by
   have:=(KC n6 (List.Pairwise.nil:([]:LI).Nodup) λx hx=>nomatch hx).length_eq
   simp_all
  have ee:er (.ow (List.replicate (n:Int).toNat (ti 0)))=dis (List.replicate n 0):=by
   show Dv.lst (fh _)=Dv.lst _;rw[BY,List.map_replicate];have:∀m:Nat,fh (List.replicate m (ti 0))=List.replicate m (di 0):=λm=>by
    induction m with
    |zero=>rfl
    |succ m ih=>show er _::fh _=_;rw[ih];rfl
   rw[this]
  have lst:aF ((ny W aK (aG n []) (n+1)).map dF) (-1)=some (dF (1,1)):=by
   unfold ny;rw[List.range_succ,BN,BN];refine(yB _ _).trans ?_;show some (dF (fW W (bH aK (aG n []) (n+1))))=_;rw[<- fl,aaA n6 .nil (λx hx=>nomatch hx) hl,adF,abK w0]
  refine ay (cu (Ev.s (Ev.to (yP (bj (ta:=.ow (lW W aK (aG (List.replicate n (0:Int)).length []) (aG (List.replicate n (0)).length []).length)) (aU xN (br _) (ag (Ev.as (abh (cf (ag ai ak) 'Q') (ae 1 rfl) 'O' 'O') ee) (ag (cf ak (AM _)) (ag (ae 0 rfl) ak))) ⟨List.replicate n 0,[],W,aK,'J',AM _,(λx hx=>nomatch hx),'J',rfl,rfl⟩) (mX ai) (by grind [DH]) lst) (pI (ag ai (ag ai ak)) 'Q') (.inr ⟨_,_,rfl,rfl⟩) (Cs (vb _) 'Q')) ?_)))
  rfl
 ·simp_all
end
section
theorem abL (h : 0<W):(c,(1:Int))=fW W (c*W):=by
 rw[<- rS (t:=c) (b:=1) h 'Q' 'O',Fv]
abbrev AY:age:=top 54
abbrev nAr:List Str:=["_law_found", "_law_counts_here", "_law_askers", "_law_row", "_law_thing"]
theorem AX:aY nAr ["_law_found", "_law_counts_here", "_law_askers"] (az AY):=sk
def QI:bG:=λdd t=>∃(c:LI) (os:LL) (W:Int) (S:Nat->LI),fM c os W S/\dd=[bA W os.length S,dis c,di os.length]/\t=tb true
theorem Ua (F:bN K "_law_are_shares" AY f fd)(T:Txt mg)(Vc:a9 P w K mg base (k+4) "_law_is_row" f1 cG ["_law_row", "_law_many"] OG)(rG:a9 P w K mg base k "_law_under" f2 fd2 ["_law_one", "_law_other"] zk)(Bp:a9 P w K mg base (k+3) "_law_column" f3 ra ["_law_shares", "_law_one"] vd):bM P w K mg base (k+5) f fd ["_law_found", "_law_counts_here", "_law_askers"] QI:=by
 refine bR F.d AX 'H' λdd t h=>?_
 obtain⟨c,os,W,S,sh,rfl,rfl⟩:_:=h;have c6:=sh.ok.c6;have o6:=sh.ok.o6;refine aq (cQ (Et.s (Ew.et (gY (ji (fO (mY T.mw T.gH rP (ae 0 rfl) (by with_unfolding_all rfl)))) λ_=>(ko (sS (bY T.bU (ae 0 rfl) (.inl rfl)) (ae 2 rfl)))))) ?_) ?_
 ·simp_all
 refine uq (t:=tb false) (bb.s (cy (ae 0 rfl) rfl)) (bu 3 (λ_=>AX.nd)) rfl (λ_=>true) (λd hd=>?_) (λ_=>?_) (λh=>?_)
 ·obtain⟨a,ha,rfl⟩:=i8.mp hd;have ha:=l9.mp ha;exact⟨_,rfl,λ_=>⟨_,ay (cQ (Et.s (ji (fO (aU Vc (br _) (ag (ae 3 rfl) (ag (bY T.bU (ae 1 rfl) (.inl rfl)) ak)) ⟨W,c.length,S a,c6,sh.bO a ha,sh.sum a ha,by rw[aa];rfl,rfl⟩)))) rfl),[3],rfl⟩,λh=>by cases h⟩
 ·refine uq (t:=tb false) (bb.s (gj T.eG (bY T.bU (ae 1 rfl) (.inl rfl)) (by rw[aa];lia))) (bu 4 (λ_=>AX.nd)) rfl (λ_=>true) (λd hd=>?_) (λ_=>ay (cu (Ev.s vg))) (λh=>?_)
  ·obtain⟨x,hx,rfl⟩:=i8.mp hd;have hx:=l9.mp hx;rw[aa,BY]at hx;have cx:c[x]?=some (c.getD x 0):='J'
   have cb:=sh.ok.cnt _ (ba cx);have cat:aF (c.map di) (x)=some (di (c.getD x 0)):=dh 'J';have col:=sh.col x hx;have ec:gO os.length S (x)=af.sg os.length (λa=>(S a).getD x 0):=by
    rfl
   have S1:=Mw sh.w0 sh.bO o6 (x);have bnd:c.getD x 0*W<=200*W:=Me 'O' (Pf sh.w0);rw[ad5];refine⟨_,rfl,λ_=>⟨_,ay (cQ (Et.s (fO (aU rG (by show k+1<=k+5;lia) (ag (kg (ag (bj (ae 1 rfl) (ae 4 rfl) rfl cat) (ag ai ak)) rfl (by show 2<=sizeLine;decide)) (ag (aU Bp (by show k+4<=k+5;lia) (ag (ae 0 rfl) (ag (ae 4 rfl) ak)) ⟨W,c.length,os.length,S,(x),sh.w0,sh.w1,sh.bO,o6,'O','O',rfl,rfl⟩) ak)) ⟨fW W (c.getD x 0*W),fW W (gO os.length S (x)),pU sh.w0 sh.w1 (ad1 cb.1 (Pf sh.w0)) bnd,pU sh.w0 sh.w1 S1.1 S1.2,by rw[<- abL sh.w0];rfl,rfl⟩))) ?_),[4],rfl⟩,λh=>by cases h⟩;rw[yl sh.w0]
   grind
  ·simp_all
 ·simp_all
theorem yR (h : 0<W)(e:fW W s=fW W t):s=t:=by
 have c1:=jb (s:=s) h;have c2:=jb (s:=t) h;have p:=gq (s:=t) h
 grind [Int.eq_of_mul_eq_mul_right]
theorem C0 {α:Type}(f : α->Dv)(inj:∀a b,bX (f a) (f b)=true->a=b):∀l l':List α,gK (l.map f) (l'.map f)=true->l=l'
 |[],[] => λ_=>rfl
 |[],_::_=>λh=>by cases h
 |_::_,[] => λh=>by cases h
 |a::l,b::l'=>λh=>by
  have h:(bX (f a) (f b)&&gK (l.map f) (l'.map f))=true:=h;rw[Lo]at h;rw[inj a b h.1,C0 f inj l l' h.2]
theorem OH (w0 : 0<W)(h:bX (bA W A S) (bA W A S')=true):∀a,a<A->S a=S' a:=by
 have e:=C0 (dD W) (λr r' h=>by
  have:=C0 dF (λp q h=>by grind [Ep]) _ _ h
  grind [List.map_inj_right,yR]) ((List.range A).map S) ((List.range A).map S') (by
   rw[i4,i4];exact h)
 simp_all
abbrev Br:age:=top 58
abbrev nLB:List Str:=["_law_counts_here", "_law_orders_here", "_law_found", "_law_shares", "_law_asker", "_law_mine"]
theorem Bb:aY nLB ["_law_counts_here", "_law_orders_here", "_law_found", "_law_shares"] (az Br):=sk
def PL:bG:=λdd t=>∃(c:LI) (os:LL) (W:Int) (S S':Nat->LI),fM c os W S/\fM c os W S'/\¬(∀a,a<os.length->S' a=S a)/\(∀a,a<os.length->∀k,bH (S a) (aG c.length (os.getD a [])) k<=bH (S' a) (aG c.length (os.getD a [])) k)/\dd=[dis c,.lst (os.map dis),bA W os.length S',bA W os.length S]/\t=tb true
theorem aaB (W:Int)(r:LI):iK (dD W r)=true:=yy NV _
theorem My (W:Int)(r:LI):de (dD W r)<=2:=rR λd hd=>by
 grind [vb]
theorem abM (W:Int)(A:Nat)(S:Nat->LI):de (bA W A S)<=50:=Cs (rR λd hd=>by
 obtain⟨a,_,rfl⟩:=i8.mp hd;exact My W (S a)) 'Q'
theorem UK (F:bN K "_law_better" Br f fd)(T:Txt mg)(Uc:a9 P w K mg base (k+5) "_law_are_shares" f1 cG ["_law_found", "_law_counts_here", "_law_askers"] QI)(xN:a9 P w K mg base (k+3) "_law_sums" f2 fd2 ["_law_counts_here", "_law_order_here", "_law_row"] EF)(UL:a9 P w K mg base (k+1) "_law_no_less" f3 ra ["_law_mine", "_law_theirs"] Mx):bM P w K mg base (k+6) f fd ["_law_counts_here", "_law_orders_here", "_law_found", "_law_shares"] PL:=by
 refine bR F.d Bb 'H' λdd t h=>?_
 obtain⟨c,os,W,S,S',sh,IA,ne,le,rfl,rfl⟩:_:=h;have c6:=sh.ok.c6;have o6:=sh.ok.o6;refine aq (cQ (Et.s (Ew.et (gY (ji (fO (aU Uc (br _) (ag (ae 2 rfl) (ag (ae 0 rfl) (ag (bY T.bU (ae 1 rfl) (.inl rfl)) ak))) ⟨c,os,W,S',IA,by rw[aa];rfl,rfl⟩))) λ_=>(ko (yO (ae 2 rfl) (ae 3 rfl) (.inl ⟨_,_,rfl,rfl⟩) (abM W os.length S')))))) ?_) ?_
 ·show(!true||bX (bA W os.length S') (bA W os.length S))=false;cases e:bX (bA W os.length S') (bA W os.length S)with
  |false=>rfl
  |true=>exact absurd (OH sh.w0 e) ne
 refine uq (t:=tb false) (bb.s (gj T.eG (bY T.bU (ae 1 rfl) (.inl rfl)) (by rw[aa];lia))) (bu 4 (λ_=>Bb.nd)) rfl (λ_=>true) (λd hd=>?_) (λ_=>ay (cu (Ev.s vg))) (λh=>?_)
 ·obtain⟨a,ha,rfl⟩:_:=i8.mp hd;have ha:=l9.mp ha;rw[aa,BY]at ha;have oa:os[a]?=some (os.getD a []):='J'
  have om:=ba oa;have xE:aF (os.map dis) (a)=some (dis (os.getD a [])):=dh 'J';have sat:∀S:Nat->LI,aF ((List.range os.length).map λa=>dD W (S a)) (a)=some (dD W (S a)):=λS=>dh 'J'
  have ol:=sh.ok.gN om;have ll:=le a ha;generalize os.getD a []=o at oa om xE ol ll;have fl:=(nc c6 (sh.ok.nd o om) (sh.ok.bK o om)).1;rw[ad5];refine⟨_,rfl,λ_=>⟨_,aq (aT 5 (Ev.s (Ev.as (aU xN (by show k+4<=k+6;lia) (ag (ae 0 rfl) (ag (bj (ae 1 rfl) (ae 4 rfl) rfl xE) (ag (bj (ae 2 rfl) (ae 4 rfl) rfl (sat S')) ak))) ⟨c,o,W,S' a,c6,ol,sh.ok.bK o om,IA.bO a ha,rfl,rfl⟩) (DH _ _ _ _))) (λ_=>Bb.nd)) (ay (cQ (Et.s (ji (fO (aU UL (by show k+2<=k+6;lia) (ag (ae 5 rfl) (ag (aU xN (by show k+4<=k+6;lia) (ag (ae 0 rfl) (ag (bj (ae 1 rfl) (ae 4 rfl) rfl xE) (ag (bj (ae 3 rfl) (ae 4 rfl) rfl (sat S)) ak))) ⟨c,o,W,S a,c6,ol,sh.ok.bK o om,sh.bO a ha,rfl,rfl⟩) ak)) ⟨W,c.length,S' a,S a,aG c.length o,'O',IA.bO a ha,sh.bO a ha,?_,rfl⟩)))) ?_)),[4,5],rfl⟩,λh=>by cases h⟩
  ·rw[KA.mpr λk _=>ll (k+1)];rfl
  ·show[_,er (.ow _)]=_;rw[DH];rfl
 ·simp_all
end
section
theorem abN (cl:∀j:Nat,j<c.length->gO A S (j:Int)<=c.getD j 0*W)(t0 : 0<=t.2.1)(t1:t.2.1<=c.length):mj W c A S t = !(nP W c A S).contains t.2.1:=by
 have hc:(nP W c A S).contains t.2.1=decide (t.2.1.toNat<c.length/\gO A S t.2.1=c.getD t.2.1.toNat 0*W):=by
  rw[af4,MW,decide_eq_true_iff];unfold nP;rw[i8]
  constructor
  ·rintro⟨j,hj,e⟩;obtain⟨h1,h2⟩:=B0.mp hj;have h2:=GS h2;rw[<- e,BY];exact⟨l9.mp h1,h2⟩
  ·rintro⟨h1,h2⟩;refine⟨t.2.1.toNat,B0.mpr ⟨l9.mpr h1,?_⟩,'Z'⟩;rw[show((t.2.1.toNat))=t.2.1 by omega];exact EO h2
 rw[hc];unfold mj;by_cases h:t.2.1=(c.length)
 ·rw[EO h,LF (show ¬(t.2.1.toNat<c.length/\_)from λz=>by have:=z.1;omega)];rfl
 ·have:=cl t.2.1.toNat 'Z';rw[show((t.2.1.toNat))=t.2.1 by omega]at this;rw[LF h,Bool.false_or];by_cases e:gO A S t.2.1=c.getD t.2.1.toNat 0*W
  ·rw[EO (show t.2.1.toNat<c.length/\_ from⟨'Z',e⟩),LF 'Z'];rfl
  ·rw[LF (show ¬(t.2.1.toNat<c.length/\_)from λz=>e z.2),EO 'Z'];rfl
theorem aaC {os:LL}(ok:eK c os)(cl:∀j,j<c.length->gO os.length S (j:Int)<=c.getD j 0*W):(oQ W c os S).Perm ((cE c.length os S os.length).filter (mj W c os.length S)):=by
 have p:=(uM c.length os S).filter (mj W c os.length S);refine(aeQ ?_).trans p;exact afU λt ht=>by
  have hi:=vP ok ((uM _ _ _).mem_iff.mp ht);exact(abN cl hi.1 hi.2.1).symm
theorem aaD {os:LL}(ok:eK c os)(h:dX (dg c os S) (c.length+1)=[]):(i9 (dg c os S) (c.length+1)).Perm (aJ (c.length+1))/\∀t∈cE c.length os S os.length,rd (i9 (dg c os S) (c.length+1)) t.2.1 t.2.2:=by
 obtain⟨h1,h2⟩:=aby h;refine⟨h1,λt ht=>?_⟩;have hi:=vP ok ht;have c6:=ok.c6;have mp:(t.2.1.toNat,t.2.2.toNat)∈dg c os S:=B0.mpr ⟨Kj.mpr ⟨'O','O'⟩,MW.mpr (i8.mpr ⟨t,ht,rfl⟩)⟩
 grind [aJ]
theorem V0 (n:Nat):(aJ n).Pairwise (· <= ·):=by
 unfold aJ;rw[OF];exact(aeU).imp λh=>'Z'
abbrev nLG:List Str:=["_law_found", "_law_counts_here", "_law_orders_here", "_law_shares", "_law_wishes_here", "_law_asker", "_law_better_here", "_law_one"]
abbrev BO:age:=top 57
theorem BD:aY nLG ["_law_found", "_law_counts_here", "_law_orders_here", "_law_shares"] (az BO):=sk
def OI:bG:=λdd t=>∃(c:LI) (os:LL) (W:Int) (S:Nat->LI),fM c os W S/\Gd c os W S/\dd=[er (ql W c os S),dis c,.lst (os.map dis),bA W os.length S]/\t=tb true
theorem VD (F:bN K "_law_good" BO f fd)(T:Txt mg)(Vd:a9 P w K mg base (k+1) "_law_wishes" f1 cG ["_law_counts_here", "_law_orders_here", "_law_shares"] OC)(V1:a9 P w K mg base (k+4) "_law_left" f2 fd2 ["_law_counts_here", "_law_shares", "_law_wishes_here"] PJ):bM P w K mg base (k+5) f fd ["_law_found", "_law_counts_here", "_law_orders_here", "_law_shares"] OI:=by
 refine bR F.d BD 'H' λdd t h=>?_
 obtain⟨c,os,W,S,sh,⟨gl,gr⟩,rfl,rfl⟩:=h;have ok:=sh.ok;have o6:=ok.o6;have c6:=ok.c6;have fl:=λo ho=>(nc c6 (ok.nd o ho) (ok.bK o ho)).1
 have wl:=pj S fl os.length (br _);have cl:=λj hj=>by
  have:=sh.col j hj;exact this
 have lp:=aaC ok cl;rw[gl]at lp;have lp:=List.nil_perm.mp lp;obtain⟨g1,g2⟩:=aaD ok gr;have hJ:er (ql W c os S)=.tup [ds "good",dis (i9 (dg c os S) (c.length+1))]:=by
  unfold ql;rw[gl];rw[uu gr,<- bP];rfl
 rw[hJ];generalize i9 (dg c os S) (c.length+1)=o at g1 g2;have ol:o.length=c.length+1:=by rw[g1.length_eq];unfold aJ;rw[aa,vc]
 have nd:=g1.nodup_iff.mpr (xQ _);have acA:=Jj ((sortI_perm o).trans g1) (Kb o) (V0 _);have a0:aF [ds "good",dis o] 0=some (ds "good"):=rfl;have a1:aF [ds "good",dis o] 1=some (dis o):=rfl;refine aq (aT 4 (Ev.s (aU Vd (by show k+2<=k+5;omega) (ag (ae 1 rfl) (ag (ae 2 rfl) (ag (ae 3 rfl) ak))) ⟨c,os,W,S,ok,sh.w0,sh.bO,rfl,rfl⟩)) (λ_=>BD.nd)) ?_;refine aq (cQ (Et.s (Ew.et (gY (ji (fO (mY T.mw T.LR J0 (ae 0 rfl) (by with_unfolding_all rfl)))) λ_=>(gY (sS (bY T.bU (ae 0 rfl) (.inr rfl)) ai) λ_=>(gY (abo (bF (ae 0 rfl) ai rfl a0) yN rfl) λ_=>(ko (ji (fO (mY T.mw T.gH rP (bF (ae 0 rfl) ai rfl a1) (by with_unfolding_all rfl)))))))))) (by rw[EO (rfl)];rfl)) ?_;have e1:er (aA (sortI o))=dis (sortI o):=bP _;have e2:er (Tr.ow (((List.range (((c.map di).length:Int)+1).toNat).map λi=>(0+((i:Nat):Int))).map λn=>Tr.fz (di n)))=dis (aJ (c.length+1)):=by rw[pJ,List.map_id',aa,show((c.length:Int)+1).toNat=c.length+1 by omega];rfl
 have cll:(c.map di).length=c.length:=aa _;refine aq (cQ (fI.to (Et.s (Ew.et (gY (p:=false) (Et.to (kn (W8 T.CK (bF (ae 0 rfl) ai rfl a1) rfl 'Z') (xM T.gH T.eG (fA (bY T.bU (ae 1 rfl) (.inl rfl)) ai) 'Z' 'Z') (.inl ⟨_,_,rfl,rfl⟩) ?_) ?_) λ_=>(ko (Et.to (kn (tb':=.ow []) (aU V1 (br _) (ag (ae 1 rfl) (ag (ae 3 rfl) (ag (ae 4 rfl) ak))) ⟨c,W,os.length,S,cE c.length os S os.length,c6,ok.cnt,sh.w0,sh.w1,sh.bO,o6,'Z',λt ht=>⟨(vP ok ht).1,(vP ok ht).2.1⟩,rfl,rfl⟩) (cf ak (AM _)) (.inl ⟨_,_,Er _,rfl⟩) ?_) ?_))))) rfl) rfl) ?_
 ·rw[e1];exact Cs (lu _) 'Q'
 ·rw[e1,e2,acA,ur (Dg _)];rfl
 ·rw[lp];decide
 ·rw[lp];rfl
 refine aq (dY (bb.s (cy (ae 4 rfl) rfl)) (uU 5 6 7 (λ_=>BD.nd)) (λ_=>[some (.fz (.tup [ds "good",dis o])),some (.fz (dis c)),some (.fz (.lst (os.map dis))),some (.fz (bA W os.length S)),some (.fz (gF (cE c.length os S os.length))),none,none,none]) rfl (λ_=>rfl) (λj d hd=>?_)) (ay (cu (Ev.s vg)));obtain⟨t,ht,rfl⟩:=gn hd;obtain⟨m1,m2,lt⟩:=(aah nd).mp (g2 t (ba ht));refine⟨_,_,rfl,ay (cQ (fI.to (Et.s (kx (yf (bF (ae 0 rfl) ai rfl a1) rfl (ae 6 rfl) m1) (yf (bF (ae 0 rfl) ai rfl a1) rfl (ae 7 rfl) m2))) ?_) rfl),[5,6,7],rfl⟩;exact LF 'Z'
end
section
def dO (c:LI)(os:LL)(W:Int)(S:Nat->LI):Nat->Nat->LI
 |0=>S
 |n+1=>jz c os W (dO c os W S n)
theorem oC {os:LL}(h:fM c os W S):∀n,fM c os W (dO c os W S n)
 |0=>h
 |n+1=>acy (oC h n)
theorem FJ {os:LL}(h:fM c os W S)(ha:a<os.length)(k i:Nat):∀n,bH (dO c os W S i a) (aG c.length (os.getD a [])) k<=bH (dO c os W S (i+n) a) (aG c.length (os.getD a [])) k
 |0=>aeZ _
 |n+1=>agb (FJ h ha k i n) (Jl (oC h (i+n)) ha k)
theorem aaE {n:Nat}{o:LI}(l1:t1.length=n+1)(l2:t2.length=n+1)(bK:∀x∈o,0<=x/\x<n)(e:∀k,bH t1 (aG n o) k=bH t2 (aG n o) k):t1=t2:=by
 refine List.ext_getElem 'Z' λi h1 h2=>?_
 have m:(i:Int)∈aG n o:=(jc bK).mpr 'Z';obtain⟨j,hj⟩:=WI.mp m;have a:=e (j+1);rw[xW hj,xW hj,e j]at a;unfold cj at a
 grind
theorem abO {os:LL}(h:fM c os W S)(hi:i<=k)(hk:¬Gd c os W (dO c os W S k)):bX (bA W os.length (dO c os W S i)) (bA W os.length (dO c os W S (k+1)))=false:=by
 cases e:bX (bA W os.length (dO c os W S i)) (bA W os.length (dO c os W S (k+1)))with
 |false=>rfl
 |true=>
  have e:=OH h.w0 e;refine absurd (Ky (oC h k) λa ha=>?_) hk;have oa:os.getD a []∈os:='J'
  refine aaE ((oC h (k+1)).bO a ha).len ((oC h k).bO a ha).len (h.ok.bK _ oa) λm=>?_
  have x:=FJ h ha m i (k-i);have y:=FJ h ha m k 1;rw[show i+(k-i)=k by omega]at x;rw[e a ha]at x;exact af9 x y
theorem KD {p:Nat->Prop}:∀n,∃m,m<=n/\(∀k,k<m->¬p k)/\(m=n\/p m)
 |0=>⟨0,br _,λk hk=>absurd hk 'Z',.inl rfl⟩
 |n+1=>by
  obtain⟨m,h1,h2,h3⟩:=KD (p:=p) n
  grind
def adG (K:Frag):R2:=λx y H Q=>∃(d:Dv) (ls:List Dv),Hv K H d x/\Hv K H (.lst ls) y/\(∀l∈ls,de l<=50/\bX l d=false)/\Q (.bl false) H
theorem abP (hr:X.A.units+64<cLine):cN X (compareOp .In) (adG X.K):=by
 intro pins s σ H x y v u Q I rx ry h;obtain⟨d,ls,hx,hy,hn,q⟩:=h;obtain⟨p,xs,rfl,hq,hl⟩:=hy;cases ry;obtain⟨its,r,pl,hz⟩:=I.list hq;have e1:=hl.length;have e2:=r.length;refine SeqAt.in_listAt (λ_=>false) pl.isList (λw hw=>?_) ⟨.bl false,H,I,?_,q⟩
 ·have tS:w∈its:='J'
  obtain⟨j,hj,ew⟩:=DO tS;obtain⟨xj,g1,g2⟩:=hl.get (ab (show j<ls.length by omega));obtain⟨w',g3,g4⟩:=r.get g1;rw[ab hj,ew]at g3;cases g3;have ea:=MP I ls[j] d X.A.in1 xj x w v (by grind) g2 hx g4 rx
  simp_all
 ·rw[show its.toArray.any (λ_=>false)=false by simp]
  rfl
theorem abQ {F:aS ι}(ha:Ev F a ρ ta)(hb:Ev F b ρ tb')(eb:er tb'=.lst ls)(hn:∀l∈ls,de l<=50/\bX l (er ta)=false)(hm:behindInMarks .In b=false):Et F (.Compare a [.In] [b] pos) ρ false:=
 jh (λi=>F.hK i▸abP (F.hr i).units) ha hb (λG H x y Q s hx hy k=>⟨er ta,ls,hx.mono s,(eb▸hy).mono s,hn,k⟩) hm
theorem YS (W:Int)(aK:LI):er (jo W aK)=dD W aK:=by
 unfold jo dD;rw[fu,i4];rfl
theorem Mz {os:LL}(ok:eK c os)(ha:a<os.length):∀cells,(dJ cells c os (0+(a:Int))).sum=cA cells
 |[] => by
  have:∀l:LI,(l.map (hU [] c os (0+(a)))).sum=0:=λl=>by
   induction l with
   |nil=>rfl
   |cons x l ih=>rw[JJ,Nd,ih];rfl
  exact this _
 |y::cells=>by
  have ih:=Mz ok ha cells;obtain⟨dl,db⟩:=Dz ok.bK y;have hd:(cY c os y).getD (0+(a:Int)).toNat 0∈cY c os y:=by
   simp_all
  have hb:=db _ hd;unfold dJ;have e1:∀x,hU (y::cells) c os (0+(a)) x=(if(cY c os y).getD (0+(a:Int)).toNat 0=x then wF y else 0)+hU cells c os (0+(a:Int)) x:=λx=>by
   unfold hU
   grind
  rw[List.map_congr_left λx _=>e1 x,sum_add];congr 1;generalize (cY c os y).getD (0+(a:Int)).toNat 0=v at hb;have:=af.pL (c.length+1) v.toNat (wF y);rw[uu 'O']at this;refine Eq.trans ?_ this;unfold aJ af.sg;rw[i4];refine congrArg List.sum (List.map_congr_left λi _=>?_)
  grind
abbrev S2:List Str:=["_law_script", "_law_counts_here", "_law_orders_here", "_law_cells", "_law_shares", "_law_table", "_law_told", "_law_kept", "_law_turn", "_law_found"]
abbrev oq:age:=top 59
theorem kr:aY S2 ["_law_script"] (az oq):=sk
theorem abR (F:bN K "law" oq f fd)(T:Txt mg)(rC:a9 P w K mg base k "_law_cell_at" f1 cG ["_law_script", "_law_k"] Fw)(Ve:a9 P w K mg base (k+3) "_law_tabled" f2 fd2 ["_law_script"] L1)(VE:a9 P w K mg base (k+2) "_law_drawn" f3 ra ["_law_cells", "_law_counts_here", "_law_orders_here"] NY)(WD:a9 P w K mg base (k+1) "table_of" f4 fd4 ["counts", "orders"] Qs)(CZ:a9 P w K mg base (k+6) "judged" f5 fd5 ["table", "shares"] Gq)(Js:a9 P w K mg base (k+7) "bettered" f6 fd6 ["table", "shares"] QG)(Vf:a9 P w K mg base (k+6) "_law_better" f7 fd7 ["_law_counts_here", "_law_orders_here", "_law_found", "_law_shares"] PL)(V2:a9 P w K mg base (k+5) "_law_good" f8 fd8 ["_law_found", "_law_counts_here", "_law_orders_here", "_law_shares"] OI):bM P w K mg base (k+8) f fd ["_law_script"] Qi:=by
 refine bR F.d kr 'H' λdd t h=>?_
 obtain⟨ns,kN,rfl,rfl⟩:=h;have big:=cw;have r1:k+1<=k+8:='Z'
 have r2:k+2<=k+8:='Z'
 have r3:k+3<=k+8:='Z'
 have r4:k+4<=k+8:='Z'
 have r6:k+6<=k+8:='Z'
 have r7:k+7<=k+8:='Z'
 have ok:=Xm ns;refine aq (Za (Ev.s (aU Ve r4 (ag (ae 0 rfl) ak) ⟨ns,rfl,rfl⟩)) (iT 1 2 (λ_=>kr.nd)) rfl) ?_;generalize vO ns=cs at ok;generalize zV ns=os at ok;have o6:=ok.o6;have o1:=ok.o1;have c6:=ok.c6;have e28:er (.ow ((cutD (ns.map di) (some 9) (some 15)).map .fz))=dis (cutD ns (some 9) (some 15)):=by rw[fP,yd]
 have c28:(cutD ns (some 9) (some 15)).length<=6:=by
  have:=X1 ns 9 15;rw[show((9:Nat):Int)=9 from rfl,show((15:Nat):Int)=15 from rfl]at this;rw[this,Lm,aec];omega
 refine aq (aT 3 (Ev.s (Ev.as (d:=dis (cutD ns (some 9) (some 15))) (x9 (ae 0 rfl) rfl (uD ai) (uD ai)) e28)) (λ_=>kr.nd)) ?_;generalize cutD ns (some 9) (some 15)=oT at c28;have QJ:de (er (.fz (dis oT)))<=50:=Cs (lu oT) 'Q';obtain⟨cells,c1,c6',abS⟩:∃cells:LI,1<=cells.length/\cells.length<=6/\Rn (jv P w K mg base S2 "law" (az oq) f (k+8)) ((dB oq).getD 2 (.Pass ⟨0,0,0,0⟩)) [some (.fz (dis ns)),some (.fz (dis cs)),some (.fz (.lst (os.map dis))),some (.fz (dis oT)),none,none,none,none,none,none] (.nx [some (.fz (dis ns)),some (.fz (dis cs)),some (.fz (.lst (os.map dis))),some (.fz (dis cells)),none,none,none,none,none,none]):=by
  cases hq:oT.isEmpty with
  |true=>
   refine⟨[fb ns 8],br _,by show 1<=6;decide,jM (Et.s (yO (ae 3 rfl) (cf ak (AM _)) (.inl ⟨_,_,rfl,rfl⟩) QJ)) ?_ (ay (aT 3 (Ev.s (Ev.as (d:=dis [fb ns 8]) (cf (ag (aU rC r1 (ag (ae 0 rfl) (ag ai ak)) ⟨ns,8,'Q',rfl,rfl⟩) ak) (by show 1<=sizeLine;decide)) rfl)) (λ_=>kr.nd)))⟩;show bX (.lst (oT.map di)) (.lst [])=true;rw[eq_nil,hq]
  |false=>
   refine⟨oT,?_,'Z',cQ (Et.s (yO (ae 3 rfl) (cf ak (AM _)) (.inl ⟨_,_,rfl,rfl⟩) QJ)) ?_⟩
   ·cases oT with
    |nil=>cases hq
    |cons _ _=>rw[ID];omega
   ·show bX (.lst (oT.map di)) (.lst [])=false;rw[eq_nil,hq]
 refine aq abS ?_;obtain⟨W,eW⟩:∃W,cA cells=W:=⟨_,rfl⟩
 obtain⟨S,hS⟩:∃S:Nat->LI,S=λa:Nat=>dJ cells cs os (0+(a:Int)):=⟨_,rfl⟩
 have bO:∀a,a<os.length->fD W cs.length (S a):=λa _=>by
  rw[hS,<- eW];exact abv c1 'Z'
 have w0 : 0<W:=by rw[<- eW];exact CM c1
 have w1:W<2^70:=by
  have:=(uJ cells).2;rw[eW]at this;omega
 have cl:∀j:Nat,j<cs.length->gO os.length S (j:Int)<=cs.getD j 0*W:=λj hj=>by
  have:=Og ok hj cells;rw[<- eW,hS];refine agb (Int.le_of_eq ?_) this;unfold gO;congr 1;exact List.map_congr_left λa _=>aak 'Z'
 have adH:er (.ow ((aJ os.length).map λa=>jo (cA cells) (dJ cells cs os a)))=.lst ((List.range os.length).map λa=>dD W (S a)):=by
  rw[fu,eW,hS];unfold aJ;rw[i4];congr 1;exact List.map_congr_left λa _=>YS _ _
 refine aq (aT 4 (Ev.s (Ev.as (aU VE r3 (ag (ae 3 rfl) (ag (ae 1 rfl) (ag (ae 2 rfl) ak))) ⟨cells,cs,os,c1,'Z',ok,rfl,rfl⟩) adH)) (λ_=>kr.nd)) ?_;have adI:er (.tp [aA cs,jm os])=fF cs os:=by
  show Dv.tup [er _,er _]=_;rw[bP,nV];rfl
 refine aq (aT 5 (Ev.s (Ev.as (d:=fF cs os) (aU WD r2 (ag (mM T.gH (ae 1 rfl) (.inl rfl)) (ag (fQ (own:=["_law_order_here"]) (fr:=[]) os dis aA (λi=>cv) (cy (ae 2 rfl) rfl) (bu 0 (λ_=>bT)) 'Q' 'Z' (λo ho=>⟨_,rfl,by exact Ev.to (mM T.gH (ae 0 rfl) (.inl rfl)) (by rw[mQ])⟩) (λdd=>by cases dd<;>rfl)) ak)) ⟨cs,os,ok,?_,rfl⟩) adI)) (λ_=>kr.nd)) ?_
 rotate_left
 ·show[er (.ow _),er (.ow _)]=_;rw[fP,show er (Tr.ow (os.map aA))=.lst (os.map dis)from nV os]
 have sh:fM cs os W S:=⟨ok,w0,w1,bO,λa ha=>by rw[hS,<- eW];exact Mz ok ha cells,λx hx=>by
  have:=cl x hx;unfold gO cj at this;rw[BY]at this;exact this⟩
 obtain⟨Z,hZ⟩:∃Z:Nat->Dv,Z=λi=>bA W os.length (dO cs os W S i):=⟨_,rfl⟩
 have z0:bA W os.length S=Z 0:=by rw[hZ];rfl
 have okZ:∀i,iK (Z i)=true:=λi=>by rw[hZ];exact yy (λa=>aaB W _) _
 have S3:∀i,de (Z i)<=3:=λi=>by
  rw[hZ];exact rR (n:=2) λd hd=>by
   obtain⟨a,_,rfl⟩:=i8.mp hd;exact My W _
 have PN:∀S:Nat->LI,er (.ow ((List.range os.length).map λa=>Tr.ow ((((S a).map (fW W)).map dF).map .fz)))=bA W os.length S:=λS=>by
  rw[fu];congr 1;exact List.map_congr_left λa _=>fP _
 refine aq (aT 6 (Ev.s (cf (ag (ae 4 rfl) ak) (by show 1<=sizeLine;decide))) (λ_=>kr.nd)) ?_;refine aq (aT 7 (Ev.s (cf (ag (Ev.as (d:=bA W os.length S) (fQ (own:=["_law_row"]) (fr:=[]) (List.range os.length) (λa=>dD W (S a)) (λa=>Tr.ow ((((S a).map (fW W)).map dF).map .fz)) (λi=>cv) (cy (ae 4 rfl) rfl) (bu 0 (λ_=>bT)) 'Q' (by rw[vc];omega) (λa ha=>⟨_,rfl,by exact mM T.gH (ae 0 rfl) (.inl rfl)⟩) (λdd=>by cases dd<;>rfl)) (PN S)) ak) (by show 1<=sizeLine;decide))) (λ_=>kr.nd)) ?_;obtain⟨L,hL⟩:∃L:Nat->List Dv,L=λn=>(List.range (n+1)).map Z:=⟨_,rfl⟩
 have L0:[bA W os.length S]=L 0:=by rw[hL,z0];rfl
 have Ll:∀n,(L n).length=n+1:=λn=>by rw[hL,aa,vc]
 have Ls:∀n,L (n+1)=L n++[Z (n+1)]:=λn=>by
  rw[hL];show(List.range (n+1+1)).map Z=_;rw[List.range_succ,BN];rfl
 have La:∀n,aF (L n) (-1)=some (Z n):=λn=>by
  rw[hL];show aF ((List.range (n+1)).map Z) (-1)=_;rw[List.range_succ,BN];exact yB _ _
 have Lok:∀n,bX (.lst (L n)) (.lst (L n))=true:=λn=>by
  rw[hL];exact ur (yy okZ _)
 have Ldp:∀n,de (.lst (L n))<=4:=λn=>rR λd hd=>by
  rw[hL]at hd;obtain⟨i,_,rfl⟩:=i8.mp hd;exact S3 i
 show bt _ _ [some (.fz (dis ns)),some (.fz (dis cs)),some (.fz (.lst (os.map dis))),some (.fz (dis cells)),some (.fz (bA W os.length S)),some (.fz (fF cs os)),some (.ow ([bA W os.length S].map .fz)),some (.ow ([bA W os.length S].map .fz)),none,none] _;rw[L0];obtain⟨m,m10,hm,hf⟩:=KD (p:=λi=>Gd cs os W (dO cs os W S i)) 10;have esh:∀S:Nat->LI,er (AQ W os.length S)=bA W os.length S:=λS=>by
  rw[fu];congr 1;refine List.map_congr_left λa _=>?_
  rw[fu];unfold dD;rw[i4];rfl
 have S4:∀n,dW ((L n).map Tr.fz).length (-1)=some n:=λn=>by
  rw[aa,Ll];unfold dW;rw[rf 'Q',uu 'Z'];congr 1;omega
 have S5:∀n,((L n).map Tr.fz)[n]?=some (.fz (Z n)):=λn=>by
  rw[l8,hL,l8,IF 'Z'];rfl
 have eqt:bX (fF cs os) (fF cs os)=true:=ur (Zc _ _);refine X3 (bb.s (gj T.eG ai 'Q')) (bu 8 (λ_=>kr.nd)) (λn=>[some (.fz (dis ns)),some (.fz (dis cs)),some (.fz (.lst (os.map dis))),some (.fz (dis cells)),some (.fz (bA W os.length S)),some (.fz (fF cs os)),some (.ow ((L n).map .fz)),some (.ow ((L n).map .fz)),none,none]) m (by rw[aa,vc];exact m10) rfl (λ_=>rfl) (λn d hn hd=>?_) ?_
 ·have gd:=hm n hn;have oU:=oC sh n;have eZ:Z (n+1)=bA W os.length (dO cs os W S (n+1)):=by rw[hZ]
  refine⟨_,[some (.fz (dis ns)),some (.fz (dis cs)),some (.fz (.lst (os.map dis))),some (.fz (dis cells)),some (.fz (bA W os.length S)),some (.fz (fF cs os)),some (.ow ((L (n+1)).map .fz)),some (.ow ((L (n+1)).map .fz)),some (.fz d),some (.fz (bA W os.length (dO cs os W S (n+1))))],rfl,aq (aT 9 (JE (t:=AQ W os.length (dO cs os W S (n+1))) Js (br _) (Ev.s (ae 5 rfl)) (Ln 6 rfl (Ev.s (mX ai)) (S4 n) (S5 n)) ⟨cs,os,W,dO cs os W S n,oU,by rw[hZ],(rf gd).symm⟩) (λ_=>kr.nd)) (Zf 9 rfl ?_),[8,9],rfl⟩;rw[esh];refine aq (cQ (Et.pk (Zg (ae 9 rfl) (.inl rfl))) rfl) ?_;refine aq (cQ (Et.pk (Ew.et (gY (ji (fO (aU Vf r7 (ag (ae 1 rfl) (ag (ae 2 rfl) (ag (ae 9 rfl) (ag (bj (ae 7 rfl) (mX ai) (fP _) (La n)) ak)))) ⟨cs,os,W,dO cs os W S n,dO cs os W S (n+1),oU,oC sh (n+1),λz=>gd (Ky oU z),λa ha k=>Jl oU ha k,by rw[hZ];rfl,rfl⟩))) λ_=>(ko (abQ (ae 9 rfl) (ae 7 rfl) (fP _) (λl hl=>?_) (by with_unfolding_all rfl)))))) rfl) ?_
  ·rw[hL]at hl;obtain⟨i,hi,rfl⟩:=i8.mp hl;refine⟨Cs (S3 i) 'Q',?_⟩;rw[hZ];exact abO sh (by have:=l9.mp hi;omega) gd
  have e6:(L n).map Tr.fz++[.fz (bA W os.length (dO cs os W S (n+1)))]=(L (n+1)).map Tr.fz:=by rw[Ls,BN,eZ];rfl
  have ll:((L n).map Tr.fz).length<sizeLine:=by rw[aa,Ll];omega
  refine aq (iQ 6 rfl (Ev.s (ae 9 rfl)) ll) ?_;refine aq (iQ 7 rfl (Ev.s (Ev.as (d:=bA W os.length (dO cs os W S (n+1))) (fQ (own:=["_law_row"]) (fr:=[]) (List.range os.length) (λa=>dD W (dO cs os W S (n+1) a)) (λa=>Tr.ow ((((dO cs os W S (n+1) a).map (fW W)).map dF).map .fz)) (λi=>cv) (cy (ae 9 rfl) rfl) (bu 0 (λ_=>bT)) 'Q' (by rw[vc];omega) (λa ha=>⟨_,rfl,by exact mM T.gH (ae 0 rfl) (.inl rfl)⟩) (λdd=>by cases dd<;>rfl)) (PN _))) ll) ?_;rw[e6];exact mN
 ·have S6:∀n,tb (bX (er (.fz (er (.ow ((L n).map Tr.fz))))) (er (.fz (er (.ow ((L n).map Tr.fz))))))=tb true:=λn=>by
   rw[show er (.fz (er (.ow ((L n).map Tr.fz))))=.lst (L n)from fP _,Lok]
  have S7:∀n,de (er (.fz (er (.ow ((L n).map Tr.fz)))))<=50:=λn=>by
   rw[fP _];exact Cs (Ldp n) 'Q'
  by_cases mt:m=10
  ·refine .inl ⟨by rw[aa,vc];exact mt,ay (cu (Ev.pk (Ev.to (yQ (p:=true) (q:=true) (Ev.to (yP (ae 6 rfl) (ae 7 rfl) (.inl ⟨_,_,fP _,fP _⟩) (S7 _)) (S6 _)) λ_=>(sC (Ev.to (yP (ae 5 rfl) (pI (ag (ae 1 rfl) (ag (ae 2 rfl) ak)) (by show 2<=sizeLine;decide)) (.inr ⟨_,_,rfl,rfl⟩) (Cs (Zd _ _) 'Q')) (congrArg tb eqt)))) rfl) trivial))⟩
  ·have gd:Gd cs os W (dO cs os W S m):=hf.resolve_left mt;have oU:=oC sh m;refine .inr ⟨_,_,tb true,by rw[l8,IF (by show m<10;omega)];rfl,rfl,aq (aT 9 (JE (t:=tn) Js (br _) (Ev.s (ae 5 rfl)) (Ln 6 rfl (Ev.s (mX ai)) (S4 m) (S5 m)) ⟨cs,os,W,dO cs os W S m,oU,by rw[hZ],(uu gd).symm⟩) (λ_=>kr.nd)) ?_,rfl⟩;exact rQ (jM (Et.pk (abd (v:=.aW) (ae 9 rfl))) 'Q' (ay (cu (Ev.pk (Ev.to (yQ (p:=true) (q:=true) (aU V2 r6 (ag (aU CZ r7 (ag (ae 5 rfl) (ag (bj (ae 6 rfl) (mX ai) (fP _) (La m)) ak)) ⟨cs,os,W,dO cs os W S m,ok,w0,w1,oU.bO,by rw[hZ];rfl,rfl⟩) (ag (ae 1 rfl) (ag (ae 2 rfl) (ag (bj (ae 7 rfl) (mX ai) (fP _) (La m)) ak)))) ⟨cs,os,W,dO cs os W S m,oU,gd,by rw[hZ];rfl,rfl⟩) λ_=>(sC (Ev.to (yP (ae 6 rfl) (ae 7 rfl) (.inl ⟨_,_,fP _,fP _⟩) (S7 _)) (S6 _)))) rfl) trivial))))
end
end au
namespace au
open PySem L2
theorem IB {us:List vn}(h:us.length=1):∃a0,us=[a0]:=by
 obtain _|⟨a0,us⟩:=us;· cases h
 obtain _|⟨b,us⟩:=us
 ·exact⟨a0,rfl⟩
 ·simp at h
theorem IC {us:List vn}(h:us.length=2):∃a0 a1,us=[a0,a1]:=by
 obtain _|⟨a0,us⟩:=us;· cases h
 obtain _|⟨a1,us⟩:=us;· cases h
 obtain _|⟨b,us⟩:=us
 ·exact⟨a0,a1,rfl⟩
 ·simp at h
theorem IE {us:List vn}(h:us.length=3):∃a0 a1 a2,us=[a0,a1,a2]:=by
 obtain _|⟨a0,us⟩:=us;· cases h
 obtain _|⟨a1,us⟩:=us;· cases h
 obtain _|⟨a2,us⟩:=us;· cases h
 obtain _|⟨b,us⟩:=us
 ·exact⟨a0,a1,a2,rfl⟩
 ·simp at h
theorem IG {us:List vn}(h:us.length=4):∃a0 a1 a2 a3,us=[a0,a1,a2,a3]:=by
 obtain _|⟨a0,us⟩:=us;· cases h
 obtain _|⟨a1,us⟩:=us;· cases h
 obtain _|⟨a2,us⟩:=us;· cases h
 obtain _|⟨a3,us⟩:=us;· cases h
 obtain _|⟨b,us⟩:=us
 ·exact⟨a0,a1,a2,a3,rfl⟩
 ·simp at h
section
variable {K:Frag}{x qual:Str}{st:age}{f:adV}{fd:FuncData}{oc kV doc pm aN ct:vn}{od an:Option adV}{i5:Array (Option vn)}{C:adV}
structure Df (K:Frag) (x:Str) (st:age) (f:adV) (fd:FuncData):Prop where
 a:nsIn K mainGlobals x=some (some (.ref f))
 F:qD K x x st f fd
theorem df (a:nsIn K mainGlobals x=some (some (.ref f)):=by k_is)(l:K.lookup f=some ⟨oc,od,.func (fnOf x x (eV st) (dB st) (az st) .none kV doc pm an aN ct),i5⟩:=by k_is)(c:codeIn K aN x=true:=by k_is)(k:keepIn K (.ref f)=true:=by k_is):Df K x st f (fnOf x x (eV st) (dB st) (az st) .none kV doc pm an aN ct):=⟨a,aaY l c k⟩
def Nn (K:Frag)(x:Str):Prop:=nsIn K mainGlobals x=some none
theorem nz (h:nsIn K mainGlobals x=some none:=by k_is):Nn K x:=h
structure Rd (p:agc) (w:agd) (K:Frag) (mg:Str->Option vn) (base:Heap):Prop where
 r:∃h:Heap,K.In h/\h.Ns mainGlobals mg
theorem Df.k {w:agd}{base:Heap}{mg:Str->Option vn}{k:Nat}{ps:List Str}{sp:Sp}{p:agc}(D:Df K x st f fd)(R:Rd p w K mg base)(ok:bS p w K mg base bx k f fd ps sp)(b:∀(kV doc pm:vn) (an:Option adV) (aN ct:vn) (us:List vn),us.length=ps.length->bindArgs (fnOf x x (eV st) (dB st) (az st) .none kV doc pm an aN ct) ⟨us,[]⟩=pure (ps.zip us):=by
 intro _ _ _ _ _ _ us hl;first|(obtain⟨_,rfl⟩:=IB hl;rfl)|(obtain⟨_,_,rfl⟩:=IC hl;rfl)|(obtain⟨_,_,_,rfl⟩:=IE hl;rfl)|(obtain⟨_,_,_,_,rfl⟩:=IG hl;rfl)):Kn p w K mg base bx k x f fd ps sp:=Kn.mk ok (let ⟨_,X,G⟩:=R.r;mg_of X G D.a) D.F.kp (D.F.binds b)
structure Dm (K:Frag) (C:adV) (x qual:Str) (st:age) (f:adV) (fd:FuncData):Prop where
 a:findIn K (.ref C) x=some (some (.ref f))
 F:fE K x qual st .none f fd
 n:isFn K (.ref f)=true
theorem dm (a:findIn K (.ref C) x=some (some (.ref f)):=by k_is)(l:K.lookup f=some ⟨oc,od,.func (fnOf x qual (eV st) (dB st) (az st) .none kV doc pm an aN ct),i5⟩:=by k_is)(c:codeIn K aN qual=true:=by k_is)(k:keepIn K (.ref f)=true:=by k_is)(n:isFn K (.ref f)=true:=by k_is):Dm K C x qual st f (fnOf x qual (eV st) (dB st) (az st) .none kV doc pm an aN ct):=⟨a,KZ l c k,n⟩
theorem Dm.b {ps:List Str}(D:Dm K C x qual st f fd)(b:∀(kV doc pm:vn) (an:Option adV) (aN ct:vn) (us:List vn),us.length=ps.length->bindArgs (fnOf x qual (eV st) (dB st) (az st) .none kV doc pm an aN ct) ⟨us,[]⟩=pure (ps.zip us):=by
 intro _ _ _ _ _ _ us hl;first|(obtain⟨_,rfl⟩:=IB hl;rfl)|(obtain⟨_,_,rfl⟩:=IC hl;rfl)|(obtain⟨_,_,_,rfl⟩:=IE hl;rfl)|(obtain⟨_,_,_,_,rfl⟩:=IG hl;rfl)):Binds K fd ps []:=D.F.binds b
theorem Dm.k {w:agd}{base:Heap}{mg:Str->Option vn}{k:Nat}{ps:List Str}{sp:Sp}{p:agc}(D:Dm K C x qual st f fd)(_:Rd p w K mg base)(ok:bS p w K mg base bx k f fd ps sp)(b:∀(kV doc pm:vn) (an:Option adV) (aN ct:vn) (us:List vn),us.length=ps.length->bindArgs (fnOf x qual (eV st) (dB st) (az st) .none kV doc pm an aN ct) ⟨us,[]⟩=pure (ps.zip us):=by
 intro _ _ _ _ _ _ us hl;first|(obtain⟨_,rfl⟩:=IB hl;rfl)|(obtain⟨_,_,rfl⟩:=IC hl;rfl)|(obtain⟨_,_,_,rfl⟩:=IE hl;rfl)|(obtain⟨_,_,_,_,rfl⟩:=IG hl;rfl)):Km p w K mg base C x k f fd ps sp:=Km.mk ⟨D.a,D.n,D.F.kp⟩ ok (D.F.binds b)
end
theorem knA {K:Frag}{h:Heap}{mg:Str->Option vn}(base:Heap)(l:PySem.W.OpenLaw)(w:agd)(X:K.In h)(G:h.Ns mainGlobals mg){k:Nat}{n:Str}{f:adV}{fd:FuncData}{ps:List Str}{sp:Sp}(ok:bS l.prog w K mg base bx k f fd ps sp)(a:nsIn K mainGlobals n=some (some (.ref f)))(kp:keepIn K (.ref f)=true)(b:Binds K fd ps []):Kn l.prog w K mg base bx k n f fd ps sp:=Kn.mk ok (mg_of X G a) kp b
theorem all_mk {l:PySem.W.OpenLaw}{w:agd}{K:Frag}{h:Heap}{mg:Str->Option vn}{fa:adV}(X:K.In h)(G:h.Ns mainGlobals mg)(hfa:mg "law"=some (.ref fa)){f3 AR:adV}{od3 IH dd3:Option adV}{sl3 ds3:Array (Option vn)}{oc3 II IJ IK AU IL do3:vn}{dn3:Nat}{tO:Tok}{gt1:Tok}{gt2:Tok}{C:adV}(D1:Df K "is_whole" BQ f1 g1)(D2:Df K "common_part" Bd f2 g2)(a3:nsIn K mainGlobals "fraction"=some (some (.ref f3)))(l3:K.lookup f3=some ⟨oc3,od3,.func (fnOf "fraction" "fraction" (eV iP) (dB iP) (az iP) (.ref AR) II IJ IK IH AU IL),sl3⟩)(d3:K.lookup AR=some ⟨do3,dd3,.seq #[.int 1 tO] dn3,ds3⟩)(c3:codeIn K AU "fraction"=true)(k3:keepIn K (.ref f3)=true)(D4:Df K "plus" Ej f4 g4)(D5:Df K "sum_of" CQ f5 g5)(D6:Df K "common_bottom" A2 f6 g6)(D7:Df K "bottom_of_all" A3 f7 g7)(D8:Df K "parts_of" BW f8 g8)(D9:Df K "check_orders" A4 f9 g9)(S8:Df K "table_of" BR f10 oS)(S9:Df K "full_order" Bt f11 g11)(Ta:Df K "first_left" By f12 g12)(Tc:Df K "dealt_of" BU f13 g13)(Td:Df K "wishes" CO f14 g14)(Te:Df K "over_pairs" Bw f15 g15)(Tf:Df K "full_things" Bm f16 g16)(Tg:Df K "lined_up" BV f17 g17)(Ti:Df K "ring_among" Bx f18 g18)(Tj:Df K "judged" CT f19 g19)(Tn:Df K "bettered" uf f20 g20)(To:Df K "_law_cell_at" A5 f21 g21)(Tp:Df K "_law_stream" Bh f22 g22)(Tq:Df K "_law_order" Bu f23 g23)(Tt:Df K "_law_orders" Bi f24 g24)(Tu:Df K "_law_counts" Bj f25 g25)(Tv:Df K "_law_divisor" A9 f26 g26)(Tw:Df K "_law_lowest" Bk f27 g27)(Tx:Df K "_law_turn_deal" AZ f28 g28)(Tz:Df K "_law_any_deal" A1 f29 g29)(TB:Df K "_law_drawn" ua f30 g30)(TC:Df K "_law_full" BH f31 g31)(TF:Df K "_law_plus" BI f32 g32)(TH:Df K "_law_under" Bz f33 g33)(TJ:Df K "_law_sums" BM f34 g34)(TK:Df K "_law_no_less" Ba f35 g35)(TL:Df K "_law_tabled" Bl f36 g36)(TN:Df K "_law_whole" BC f37 g37)(TQ:Df K "_law_is_row" Bq f38 g38)(TR:Df K "_law_column" Bn f39 g39)(TU:Df K "_law_are_shares" AY f40 g40)(TV:Df K "_law_wishes" Bo f41 g41)(TX:Df K "_law_left" BL f42 g42)(TY:Df K "_law_better" Br f43 g43)(TZ:Df K "_law_good" BO f44 g44)(IM:Df K "law" oq f45 g45)(z0:Nn K "isinstance")(z1:Nn K "int")(z2:Nn K "bool")(z3:Nn K "list")(z4:Nn K "tuple")(z5:Nn K "len")(z6:Nn K "range")(z7:Nn K "zip")(z8:Nn K "any")(z9:Nn K "enumerate")(z10:Nn K "set")(z11:Nn K "abs")(z12:Nn K "sum")(z13:Nn K "sorted")(z14:Nn K "reversed")(z15:Nn K "str")(z16:Nn K "min")(g1:nsIn K mainGlobals "MOST"=some (some (.int 6 gt1)))(g2:nsIn K mainGlobals "MOST_COUNT"=some (some (.int 9 gt2)))(gc:nsIn K mainGlobals "Market"=some (some (.ref C)))(u1:plainGet K C Str.empty=true)(u2:hasDictIn K C=true)(u3:PySem.W.plainOver K C=true)(u4:findIn K (.ref C) "__setattr__"=some (some (.builtin "object.__setattr__")))(u5:PySem.W.makesIn K C=true)(u6:keepIn K (.ref C)=true)(n0:findIn K (.ref C) "orders"=some none)(n1:findIn K (.ref C) "owned"=some none)(n2:findIn K (.ref C) "spare"=some none)(n3:findIn K (.ref C) "got"=some none)(n4:findIn K (.ref C) "wanted"=some none)(E0:Dm K C "__init__" "Market.__init__" zh x0 y0)(E1:Dm K C "wanting" "Market.wanting" Ct x1 y1)(E2:Dm K C "owners" "Market.owners" CU x2 y2)(E3:Dm K C "gone" "Market.gone" Ex x3 y3)(E4:Dm K C "giver" "Market.giver" DB x4 y4)(E5:Dm K C "ring" "Market.ring" y9 x5 y5)(E6:Dm K C "source" "Market.source" yk x6 y6)(E7:Dm K C "leave" "Market.leave" yD x7 y7)(E8:Dm K C "trade" "Market.trade" yF x8 y8)
  : ∃fd:FuncData,(∀(s:adX) (v:vn),BindsTo s fd ⟨[v],[]⟩ [("_law_script",v)])/\∀base:Heap,K.In base->base.Ns mainGlobals mg->bS l.prog w K mg base bx 9 fa fd ["_law_script"] (zt K):=by
 have zz:∀{x:Str},Nn K x->mg x=none:=PySem.W.mg_none_of X G;have T:Txt mg:=⟨zz z0,zz z1,zz z2,zz z3,zz z4,zz z5,zz z6,zz z7,zz z8,zz z9,zz z10,zz z11,zz z12,zz z13,zz z14,zz z15,zz z16,⟨_,mg_of X G g1⟩,⟨_,mg_of X G g2⟩⟩
 have F3:=KZ (st:=iP) l3 c3 k3;have b3:Binds K (fnOf "fraction" "fraction" (eV iP) (dB iP) (az iP) (.ref AR) II IJ IK IH AU IL) ["top", "bottom"] []:=λs us hK hl=>match us,hl with | [u,v],_=>PySem.W.binds_K (fd:=fnOf _ _ (eV iP) _ _ _ _ _ _ _ _ _) hK rfl d3 rfl rfl rfl
 have IP:Binds K (fnOf "fraction" "fraction" (eV iP) (dB iP) (az iP) (.ref AR) II IJ IK IH AU IL) ["top", "bottom"] [.int 1 tO]:=λs us hK hl=>by
  cases us with
  |nil=>exact absurd hl 'Y'
  |cons u0 r0=>
   cases r0 with
   |nil=>exact PySem.W.binds_K (fd:=fnOf _ _ (eV iP) _ _ _ _ _ _ _ _ _) hK rfl d3 rfl rfl rfl
   |cons _ _=>exact absurd hl (by simp only[xw,ID,List.length_nil];omega)
 have U:k6 K C:=⟨⟨u1,u2,u3,u4⟩,n0,n1,n2,n3,n4⟩
 cases hfa.symm.trans (mg_of X G IM.a)
 have F45:=IM.F;obtain⟨_,_,kV,dc,pm,an,cd,ct,_,rfl,_,_⟩:=IM.F.ex;refine⟨fnOf "law" "law" (eV oq) (dB oq) (az oq) .none kV dc pm an cd ct,λs v=>.of_eq rfl,λbase _ _=>?_⟩;have R:Rd l.prog w K mg base:=⟨_,X,G⟩
 have K1:=D1.k R (VP (k:=0) D1.F T );have K2:=D2.k R (Uw (k:=0) D2.F T );have K3:=knA base l w X G (VQ (k:=0) F3 T K1 K2) a3 k3 b3;have K4:=D4.k R (Z8 (k:=0) D4.F T K3);have K5:=D5.k R (Xo (k:=0) D5.F T K3 IP K4);have K6:=D6.k R (Ug (k:=0) D6.F T K2);have K7:=D7.k R (Ui (k:=0) D7.F T K6);have K8:=D8.k R (VY (k:=0) D8.F T );have K9:=D9.k R (Ul (k:=0) D9.F T );have K10:=S8.k R (VS (k:=0) S8.F T K9);have T1:=S9.k R (UX (k:=1) S9.F T );have K12:=Ta.k R (U7 (k:=0) Ta.F T );have K13:=Tc.k R (VV (k:=0) Tc.F T K5);have T2:=Td.k R (Xn (k:=0) Td.F T T1 K3 IP);have K15:=Te.k R (U3 (k:=0) Te.F T T2);have K16:=Tf.k R (UG (k:=0) Tf.F T K13 K3 IP);have K17:=Tg.k R (VW (k:=0) Tg.F T );have K18:=Ti.k R (U4 (k:=0) Ti.F T );have T3:=Tj.k R (Xp (k:=0) Tj.F T T2 K16 K17 K15 K18);have N1:=E1.k R (Wz (k:=0) E1.F T U);have N2:=E2.k R (Xs (k:=0) E2.F T U);have N3:=E3.k R (aam (k:=0) E3.F T U N2);have N4:=E4.k R (YG (k:=0) E4.F T U N1 N2);have N5:=E5.k R (aao (k:=2) E5.F T U N3 N1 N4 K12 'Q' 'Q' 'Q' 'Q');have N6:=E6.k R (Xx (k:=0) E6.F U);have N7:=E7.k R (YL (k:=0) E7.F T U);have N8:=E8.k R (YQ (k:=3) E8.F T U N5 N6 N7 'Q' 'Q' 'Q');have N0:=SU.mk (P:=l.prog) (w:=w) (base:=base) (mg:=mg) ⟨u5,E0.a,E0.n,u6⟩ (aaw (k:=2) E0.F T U T1 K8 'Q' 'Q') E0.b (mg_of X G gc);have K20:=Tn.k R (VZ (k:=7) Tn.F T U T3 K7 K3 N0 N8 N1 'Q' 'Q' 'Q' 'Q' 'Q' 'Q');have T4:=To.k R (Uo (k:=0) To.F T );have AV:=Tp.k R (Uy (k:=0) Tp.F T );have K23:=Tq.k R (UY (k:=0) Tq.F T AV);have K24:=Tt.k R (Uz (k:=0) Tt.F T K23);have K25:=Tu.k R (UA (k:=0) Tu.F T AV);have au:=Tv.k R (Up (k:=0) Tv.F T );have IQ:=Tw.k R (UB (k:=0) Tw.F T au);have K28:=Tx.k R (Ub (k:=0) Tx.F T AV);have K29:=Tz.k R (Ud (k:=0) Tz.F T AV);have K30:=TB.k R (UZ (k:=0) TB.F T K29 K28 IQ);have T5:=TC.k R (Vy (k:=0) TC.F T );have T6:=TF.k R (VA (k:=0) TF.F T IQ);have IT:=TH.k R (U9 (k:=0) TH.F T );have T7:=TJ.k R (VC (k:=0) TJ.F T T5 T6);have K35:=TK.k R (Us (k:=0) TK.F T IT);have K36:=TL.k R (UD (k:=0) TL.F T T4 K25 K24);have K37:=TN.k R (Vb (k:=0) TN.F T );have K38:=TQ.k R (UJ (k:=0) TQ.F T K37 IQ T7);have T8:=TR.k R (UH (k:=0) TR.F T T6);have K40:=TU.k R (Ua (k:=0) TU.F T K38 IT T8);have K41:=TV.k R (UI (k:=0) TV.F T T5);have K42:=TX.k R (VB (k:=0) TX.F T T8 IT);have K43:=TY.k R (UK (k:=0) TY.F T K40 T7 K35);have K44:=TZ.k R (VD (k:=0) TZ.F T K41 K42);exact aa6 (abR (k:=0) F45 T T4 K36 K30 K10 T3 K20 K43 K44)
theorem walk {l:PySem.W.OpenLaw}{q:agc}{loose:List Str}{XP:(Str->Option vn)->Heap->Prop}{YP:agd->Heap->Prop}{d:DefRec}{K:Params->Frag}(hn:l.most=some 63)(wg:d.params.defaults=[])(hY:∀(w:agd) (h:Heap),YP w h->(K w.params).In h)(F:∀(w:agd) (mg:Str->Option vn) (fa:adV) (h:Heap),(K w.params).In h->h.Ns mainGlobals mg->mg d.name=some (.ref fa) ->
   ∃fd:FuncData,(∀(s:adX) (v:vn),BindsTo s fd ⟨[v],[]⟩ [("_law_script",v)])/\∀base:Heap,(K w.params).In base->base.Ns mainGlobals mg->bS l.prog w (K w.params) mg base bx 9 fa fd ["_law_script"] (zt (K w.params))):
  PySem.W.WalkO q loose XP YP l.row.toRowW d [] (λf vs=>PySem.call f vs):=
 L2.Y2 (n:=63) (k:=9) (x :="_law_script") (CX:=λ_=>bx) (sp:=λw=>zt (K w.params)) hn 'Q' wg ⟨rfl,'Q','Q'⟩ hY F (λ_ _ a ns hl _ hS=>⟨a,ns,rfl,hS,hl,λ_=>rfl⟩) λ_ _ _ _ _ z=>z
end au
open PySem PySem.W PyProof.Rows
set_option maxRecDepth 100000 in
set_option maxHeartbeats 0 in
theorem PySem.Challenge.cw_lotmeal_k26_bettered_again_holds : PySem.Challenge.rw_lotmeal_k26_bettered_again.Holds := by
 w_on;refine holds_law wSd0 λadX=>?_
 refine holds_open (q:=iY.hV) (loose:=["fraction"]) (Xt:=iY.hX) (XP:=XL iY.hV []) (Yf:=(kHook iY.hK iY.hA iY.zl).obs) (Ya:=(kHook iY.hK iY.hA iY.zl).val) (YP:=(kHook iY.hK iY.hA iY.zl).says) iY.hL (Hook.of _) (Hook.keeps _) (λs e=>xl_of s (Bool.and_eq_true_iff.mp e).1) XL.keeps 'X' 'X' 'X' (λs e=>recFacts_of (Bool.and_eq_true_iff.mp e).2) 'X' (by first|assumption|decide +kernel) 'W' ⟨rfl,rfl,rfl,rfl,rfl,'W'⟩ ?hw ?hc
 case hw=>w_witness2
 k_fill
 refine au.walk (l:=PySem.Challenge.rw_lotmeal_k26_bettered_again) rfl rfl (λw h Y=>PySem.W.kIn_of Y) ?F
 case F=>
  intro w mg fa h KX G wk;exact au.all_mk KX G wk au.df au.df (by k_is) (by k_is) (by k_is) (by k_is) (by k_is) au.df au.df au.df au.df au.df au.df au.df au.df au.df au.df au.df au.df au.df au.df au.df au.df au.df au.df au.df au.df au.df au.df au.df au.df au.df au.df au.df au.df au.df au.df au.df au.df au.df au.df au.df au.df au.df au.df au.df au.df au.df au.df au.nz au.nz au.nz au.nz au.nz au.nz au.nz au.nz au.nz au.nz au.nz au.nz au.nz au.nz au.nz au.nz au.nz (by k_is) (by k_is) (by k_is) (by k_is) (by k_is) (by k_is) (by k_is) (by k_is) (by k_is) (by k_is) (by k_is) (by k_is) (by k_is) (by k_is) au.dm au.dm au.dm au.dm au.dm au.dm au.dm au.dm au.dm
