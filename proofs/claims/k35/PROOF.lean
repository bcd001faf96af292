import PyProof.Rows.All
import Lean
import PyProof.EqAt
import PyProof.EqKinds
import PyProof.TupleCall
import PyProof.NeKinds
import PyProof.ZipIter
import PyProof.WalksEnum
import PyProof.CompUse
import PyProof.ListRange
import PyProof.Rows.SetFrom
import PyProof.Rows.SortWalk
import PyProof.Rows.SeqMore2
import PyProof.SetRoads
import KE.KRevIter
import PyProof.WalksMore
import PyProof.AutoRange
import PyProof.ListNew
import PySem.Challenge.RW_lotmeal_k35_whole_mix_walked
import KE.KIsAll
import KE.KTurns
import KE.KItem
import KE.KDictSum
import KE.LcSums
import KE.IntBitsLaws
set_option Elab.async false
set_option compiler.extract_closed false
open Lean in
local macro_rules(kind:=Lean.Parser.Command.declaration)|x=>if["def","abbrev"].contains x[1][0].getAtomVal&&x[0][4].isNone then pure<|x.modifyArg 0 (·.setArg 4 (mkNullNode #[mkNode `Lean.Parser.Command.noncomputable #[mkAtom ""]])) else Macro.throwUnsupported
set_option linter.all false
set_option maxRecDepth 100000
set_option maxHeartbeats 4000000
namespace L2
open PySem PySem.Spec PyProof.Rows
abbrev Key := Sum Int Str
def keyIs : Key → Value → Bool
  | .inl k, v => Value.isInt k v
  | .inr x, v => Value.isStrOf x v
def keyH (w : World) : Key → Int
  | .inl k => hashInt k
  | .inr x => hashStr w x
theorem keyIs_shape : ∀ {k : Key} {v : Value}, keyIs k v = true → (∃ i t, k = Sum.inl i ∧ v = Value.int i t) ∨ (∃ x t, k = Sum.inr x ∧ v = Value.str x t)
  | .inl i, v, h => by
    obtain ⟨t, e⟩ := Value.isInt_shape (k := i) (v := v) h
    exact .inl ⟨i, t, rfl, e⟩
  | .inr x, v, h => by
    obtain ⟨t, e⟩ := Value.isStrOf_shape (x := x) (v := v) h
    exact .inr ⟨x, t, rfl, e⟩
theorem keyIs_int (i : Int) (t : Tok) : keyIs (.inl i) (.int i t) = true := by simp [keyIs, Value.isInt]
theorem keyIs_str (x : Str) (t : Tok) : keyIs (.inr x) (.str x t) = true := by simp [keyIs, Value.isStrOf]
theorem key_ll (a b : Int) : decide ((Sum.inl a : Key) = Sum.inl b) = (a == b) := by
  by_cases e : a = b
  · subst e; simp
  · have h : ¬ (Sum.inl a : Key) = Sum.inl b := fun q => e (Sum.inl.inj q)
    rw [decide_eq_false h]
    exact (beq_eq_false_iff_ne.mpr e).symm
theorem key_rr (a b : Str) : decide ((Sum.inr a : Key) = Sum.inr b) = decide (a = b) := by
  by_cases e : a = b
  · subst e; simp
  · have h : ¬ (Sum.inr a : Key) = Sum.inr b := fun q => e (Sum.inr.inj q)
    rw [decide_eq_false h, decide_eq_false e]
theorem key_lr (a : Int) (b : Str) : decide ((Sum.inl a : Key) = Sum.inr b) = false := decide_eq_false (fun q => nomatch q)
theorem key_rl (a : Str) (b : Int) : decide ((Sum.inr a : Key) = Sum.inl b) = false := decide_eq_false (fun q => nomatch q)
def mixKind (prog : Program) (w : World) : PySem.KeyKind prog w Key where
  is := keyIs
  hash := keyH w
  inj := fun v a b ha hb => by
    rcases keyIs_shape ha with ⟨i, t, rfl, rfl⟩ | ⟨x, t, rfl, rfl⟩
    · rcases keyIs_shape hb with ⟨j, u, rfl, e⟩ | ⟨y, u, rfl, e⟩
      · injection e with e1 _; rw [e1]
      · exact nomatch e
    · rcases keyIs_shape hb with ⟨j, u, rfl, e⟩ | ⟨y, u, rfl, e⟩
      · exact nomatch e
      · injection e with e1 _; rw [e1]
  byValue := fun k v h => by
    rcases keyIs_shape h with ⟨i, t, rfl, rfl⟩ | ⟨x, t, rfl, rfl⟩ <;> rfl
  pyHash := fun hv h => by
    rcases keyIs_shape hv with ⟨i, t, rfl, rfl⟩ | ⟨x, t, rfl, rfl⟩
    · exact wpAny_pyHash_int h
    · exact wpAny_pyHash_str h
  eqBool := fun hu hv h => by
    rcases keyIs_shape hu with ⟨i, t, rfl, rfl⟩ | ⟨x, t, rfl, rfl⟩
    · rcases keyIs_shape hv with ⟨j, u, rfl, rfl⟩ | ⟨y, u, rfl, rfl⟩
      · rw [key_ll] at h; exact wpAny_eqBool_int h
      · rw [key_lr] at h; exact SeqAt.EqAt.int_str i t y u _ _ _ _ h
    · rcases keyIs_shape hv with ⟨j, u, rfl, rfl⟩ | ⟨y, u, rfl, rfl⟩
      · rw [key_rl] at h; exact SeqAt.EqAt.str_int x t j u _ _ _ _ h
      · rw [key_rr] at h; exact wpAny_eqBool_str h
  «strs» := fun k x t v h => by
    rcases keyIs_shape h with ⟨i, u, rfl, e⟩ | ⟨y, u, rfl, e⟩
    · exact nomatch e
    · injection e with e1 _
      subst e1
      cases v <;> rfl
theorem mixKind_is (prog : Program) (w : World) (k : Key) (v : Value) : (mixKind prog w).is k v = keyIs k v := rfl
theorem mixKind_int (prog : Program) (w : World) (i : Int) (t : Tok) : (mixKind prog w).is (.inl i) (.int i t) = true := keyIs_int i t
theorem mixKind_str (prog : Program) (w : World) (x : Str) (t : Tok) : (mixKind prog w).is (.inr x) (.str x t) = true := keyIs_str x t
end L2
namespace L2
open PySem PySem.Spec PyProof.Rows
inductive V where
  | non | bl (b : Bool) | int (i : Int) | str (x : Str) | byt (b : Array UInt8) | flt (b : UInt64) | ref (a : Addr) | ty (n : String)
  deriving DecidableEq
def RelV : V → Value → Prop
  | .non, u => u = Value.none
  | .bl b, u => u = Value.bool b
  | .int i, u => ∃ t, u = Value.int i t
  | .str x, u => ∃ t, u = Value.str x t
  | .byt b, u => ∃ t, u = Value.bytes b t
  | .flt b, u => ∃ t, u = Value.float b t
  | .ref a, u => u = Value.ref a
  | .ty n, u => u = Value.type n
abbrev Vals : List V → List Value → Prop := Paired RelV
theorem Vals.length {xs : List V} {us : List Value} (r : Vals xs us) : xs.length = us.length := Paired.length r
theorem Vals.get : ∀ {xs : List V} {us : List Value} {i : Nat} {x : V}, Vals xs us → xs[i]? = some x → ∃ u, us[i]? = some u ∧ RelV x u
  | _, _, _, _, .nil, e => by simp at e
  | _, _, 0, _, .cons r _, e => by simp at e; subst e; exact ⟨_, rfl, r⟩
  | _, _, i + 1, x, .cons _ t, e => by
    obtain ⟨u, h1, h2⟩ := Vals.get (i := i) (x := x) t (by simpa using e)
    exact ⟨u, by simpa using h1, h2⟩
theorem Vals.set {x : V} {u : Value} (r : RelV x u) : ∀ {xs : List V} {us : List Value} (i : Nat), Vals xs us → Vals (xs.set i x) (us.set i u)
  | _, _, _, .nil => .nil
  | _, _, 0, .cons _ t => .cons r t
  | _, _, i + 1, .cons q t => .cons q (Vals.set r i t)
theorem Vals.append : ∀ {xs ys : List V} {us ws : List Value}, Vals xs us → Vals ys ws → Vals (xs ++ ys) (us ++ ws)
  | _, _, _, _, .nil, s => s
  | _, _, _, _, .cons r t, s => .cons r (Vals.append t s)
def RelO : Option V → Option Value → Prop
  | some v, some u => RelV v u
  | none, none => True
  | _, _ => False
def KV {κ : Type} : List (κ × V) → List (κ × Value) → Prop := Paired fun (p : κ × V) (q : κ × Value) => p.1 = q.1 ∧ RelV p.2 q.2
def kV : Key → V
  | .inl i => .int i
  | .inr x => .str x
inductive HO where
  | lst (xs : List V)
  | tup (xs : List V)
  | dK (kvs : List (Key × V)) | dT (kvs : List (List Key × V))
  | set (S : Int → Bool) (n : Nat)
  | ins (C dx : Addr) (fs : List (Str × V))
  | own (x : Addr)
  | xd (fs : List (Str × V))
  | met (f x : Addr)
  | rng (lo hi : Int)
  | frz (o : Obj) (u : HO)
  | tbl (ps : Array Value)
  | ext (φ : Heap → Prop)
abbrev Hp := Addr → Option HO
def upd (H : Hp) (a : Addr) (o : HO) : Hp := fun b => if b = a then some o else H b
theorem upd_same {H : Hp} {a : Addr} {o : HO} : upd H a o a = some o := by unfold upd; rw [if_pos rfl]
theorem upd_ne {H : Hp} {a b : Addr} {o : HO} (h : b ≠ a) : upd H a o b = H b := by unfold upd; rw [if_neg h]
theorem upd_upd {H : Hp} {a : Addr} {o u : HO} : upd (upd H a o) a u = upd H a u := by
  funext b; unfold upd; split <;> rfl
theorem ne_of {H : Hp} {a b : Addr} {o u : HO} (h : H a = some o) (h' : H b = some u) (d : o ≠ u) : a ≠ b := by
  intro e; subst e; rw [h] at h'; exact d (Option.some.inj h')
theorem ne_of_none {H : Hp} {a b : Addr} {o : HO} (h : H a = some o) (h' : H b = none) : a ≠ b := by
  intro e; subst e; rw [h] at h'; cases h'
section
variable (P : Program) (w : World)
def ObjOk (H : Hp) (h : Heap) (a : Addr) : HO → Prop
  | .lst xs => xs.length ≤ sizeLine ∧ ∃ (its : List Value) (n : Nat), Vals xs its ∧ h.get? a = some { cls := .type "list", data := .seq its.toArray n }
  | .tup xs => xs.length ≤ sizeLine ∧ ∃ its : List Value, Vals xs its ∧ IsTup h a its.toArray
  | .dK kvs => kvs.length ≤ sizeLine ∧ (a == sysModules) = false ∧ ∃ vs, KV kvs vs ∧ h.DictOf (mixKind P w) a vs
  | .dT kvs => kvs.length ≤ sizeLine ∧ (a == sysModules) = false ∧ ∃ xs : List (List Key × Addr × Value),
      Paired (fun (p : List Key × V) (q : List Key × Addr × Value) => p.1 = q.1 ∧ H q.2.1 = some (.tup (p.1.map kV)) ∧ RelV p.2 q.2.2) kvs xs ∧
      ∃ o es ep, h.get? a = some o ∧ o.ExactDict ∧ o.data = .dict es ep ∧ es.toList = xs.map (entryOfKey (tupleKind (mixKind P w))) ∧ (xs.map (·.1)).Nodup
  | .set S n => h.SetOf (intKind P w) a S n
  | .ins C dx fs => H dx = some (.own a) ∧ fs.length ≤ 1000 ∧ dx ≠ a ∧ h.get? a = some (PySem.W.instObj C dx) ∧
      ∃ mA, h.Ns1 dx mA ∧ (∀ f, RelO (fs.lookup f) (mA f)) ∧ PySem.Within mA (fs.map (·.1))
  | .own _ => ∃ o, h.get? a = some o
  | .xd fs => ∃ mA, h.Ns1 a mA ∧ ∀ f, RelO (fs.lookup f) (mA f)
  | .rng lo hi => ∃ t u v, h.get? a = some { cls := .type "range", data := .fields #[.int lo t, .int hi u, .int 1 v] }
  | .frz o u => h.get? a = some o ∧ ObjOk H h a u
  | .tbl ps => h.get? a = some { cls := .none, data := .fields ps }
  | .met f x => h.get? a = some (PySem.W.methodObj (.ref f) (.ref x))
  | .ext φ => φ h ∧ (∃ o, h.get? a = some o) ∧ ∀ h1 h2 : Heap, φ h1 → (∀ o, h1.get? a = some o → h2.get? a = some o) → φ h2
def HOk (H : Hp) (h : Heap) : Prop := ∀ a o, H a = some o → ObjOk P w H h a o
end
section
variable {P : Program} {w : World} {H H' : Hp} {h h' : Heap} {a : Addr} {o : HO}
theorem ObjOk.lt (x : ObjOk P w H h a o) : a < h.objs.size := by
  cases o with
  | lst xs => obtain ⟨_, _, _, _, e⟩ := x; exact Heap.lt_size e
  | tup xs => obtain ⟨_, _, _, p⟩ := x; exact p.lt
  | dK kvs => obtain ⟨_, _, _, _, o, _, _, e, _⟩ := x; exact Heap.lt_size e
  | dT kvs => obtain ⟨_, _, _, _, o, _, _, e, _⟩ := x; exact Heap.lt_size e
  | set S n => obtain ⟨o, _, _, _, e, _⟩ := x; exact Heap.lt_size e
  | ins C dx fs => obtain ⟨_, _, _, e, _⟩ := x; exact Heap.lt_size e
  | own y => obtain ⟨_, e⟩ := x; exact Heap.lt_size e
  | xd fs => obtain ⟨_, ⟨_, _, _, e, _⟩, _⟩ := x; exact Heap.lt_size e
  | rng lo hi => obtain ⟨_, _, _, e⟩ := x; exact Heap.lt_size e
  | frz ob u => obtain ⟨e, _⟩ := x; exact Heap.lt_size e
  | tbl ps => exact Heap.lt_size (show h.get? a = some _ from x)
  | met f y => exact Heap.lt_size (show h.get? a = some _ from x)
  | ext φ => obtain ⟨_, ⟨_, e⟩, _⟩ := x; exact Heap.lt_size e
theorem Paired.mapP {α β : Type} {F G : α → β → Prop} : ∀ {l₁ : List α} {l₂ : List β}, Paired F l₁ l₂ → (∀ a b, F a b → G a b) → Paired G l₁ l₂
  | _, _, .nil, _ => .nil
  | _, _, .cons r t, f => .cons (f _ _ r) (Paired.mapP t f)
theorem ObjOk.stay (x : ObjOk P w H h a o) (k : ∀ b u, (b = a ∨ H b = some (.own a)) → h.get? b = some u → h'.get? b = some u)
    (ho : ∀ b, H b = some (.own a) → H' b = some (.own a)) (ht : ∀ b xs, H b = some (.tup xs) → H' b = some (.tup xs)) : ObjOk P w H' h' a o := by
  induction o with
  | lst xs => obtain ⟨z, its, n, r, e⟩ := x; exact ⟨z, its, n, r, k _ _ (.inl rfl) e⟩
  | tup xs => obtain ⟨z, its, r, ob, e, c⟩ := x; exact ⟨z, its, r, ob, k _ _ (.inl rfl) e, c⟩
  | dK kvs => obtain ⟨z, y, vs, r, ob, es, ep, e, c⟩ := x; exact ⟨z, y, vs, r, ob, es, ep, k _ _ (.inl rfl) e, c⟩
  | dT kvs =>
    obtain ⟨z, y, xs, r, ob, es, ep, e, c⟩ := x
    exact ⟨z, y, xs, Paired.mapP r fun p q z => ⟨z.1, ht _ _ z.2.1, z.2.2⟩, ob, es, ep, k _ _ (.inl rfl) e, c⟩
  | set S n => obtain ⟨ob, es, ep, t, e, c⟩ := x; exact ⟨ob, es, ep, t, k _ _ (.inl rfl) e, c⟩
  | ins C dx fs =>
    obtain ⟨d, z, ne, e, mA, ⟨od, es, ep, e2, c⟩, r⟩ := x
    exact ⟨ho _ d, z, ne, k _ _ (.inl rfl) e, mA, ⟨od, es, ep, k _ _ (.inr d) e2, c⟩, r⟩
  | own y => obtain ⟨ob, e⟩ := x; exact ⟨ob, k _ _ (.inl rfl) e⟩
  | xd fs => obtain ⟨mA, ⟨od, es, ep, e, c⟩, r⟩ := x; exact ⟨mA, ⟨od, es, ep, k _ _ (.inl rfl) e, c⟩, r⟩
  | rng lo hi => obtain ⟨t, u, v, e⟩ := x; exact ⟨t, u, v, k _ _ (.inl rfl) e⟩
  | frz ob u ih => obtain ⟨e, q⟩ := x; exact ⟨k _ _ (.inl rfl) e, ih q⟩
  | tbl ps =>
    have e : h.get? a = some { cls := .none, data := .fields ps } := x
    show h'.get? a = some { cls := .none, data := .fields ps }
    exact k a _ (.inl rfl) e
  | met f y =>
    have e : h.get? a = some (PySem.W.methodObj (.ref f) (.ref y)) := x
    show h'.get? a = some (PySem.W.methodObj (.ref f) (.ref y))
    exact k a _ (.inl rfl) e
  | ext φ => obtain ⟨p, ⟨o, e⟩, st⟩ := x; exact ⟨st _ _ p fun o q => k _ _ (.inl rfl) q, ⟨o, k _ _ (.inl rfl) e⟩, st⟩
theorem HOk.lt (x : HOk P w H h) (e : H a = some o) : a < h.objs.size := (x a o e).lt
theorem HOk.fresh (x : HOk P w H h) (e : h.objs.size ≤ a) : H a = none := by
  cases q : H a with
  | none => rfl
  | some u => exact absurd (Nat.lt_of_lt_of_le (x.lt q) e) (Nat.lt_irrefl _)
theorem HOk.kept (x : HOk P w H h) (k : ∀ b u, h.get? b = some u → h'.get? b = some u) : HOk P w H h' := fun a o e =>
  (x a o e).stay (fun b u _ q => k b u q) (fun _ q => q) fun _ _ q => q
theorem HOk.laid (x : HOk P w H h) (k : ∀ b u, h.get? b = some u → h'.get? b = some u) (hp : h.objs.size ≤ a) (new : ObjOk P w (upd H a o) h' a o) : HOk P w (upd H a o) h' := fun b u e => by
  have hn := x.fresh hp
  by_cases hb : b = a
  · subst hb; rw [upd_same] at e; cases e; exact new
  · rw [upd_ne hb] at e
    exact (x b u e).stay (fun c v _ q => k c v q) (fun c q => by rw [upd_ne (ne_of_none q hn)]; exact q) fun c xs q => by rw [upd_ne (ne_of_none q hn)]; exact q
end
def Rd (H : Hp) (a : Addr) (u : HO) : Prop := H a = some u ∨ ∃ o, H a = some (.frz o u)
theorem Rd.ok {P : Program} {w : World} {H : Hp} {h : Heap} {a : Addr} {u : HO} (r : Rd H a u) (x : HOk P w H h) : ObjOk P w H h a u := by
  rcases r with r | ⟨o, r⟩
  · exact x a u r
  · obtain ⟨_, q⟩ := x a _ r
    exact q
def Mut : Option HO → Prop
  | some (.lst _) => True
  | some (.dK _) => True
  | some (.dT _) => True
  | some (.set _ _) => True
  | some (.ins _ _ _) => True
  | some (.ext _) => True
  | _ => False
section
variable {P : Program} {w : World} {H : Hp} {h h' : Heap} {x e : Addr} {o' : HO}
theorem HOk.write (ok : HOk P w H h) (mu : Mut (H x)) (he : e = x ∨ H e = some (.own x)) (k : ∀ b u, b ≠ e → h.get? b = some u → h'.get? b = some u) (heo : ∃ u, h'.get? e = some u)
    (new : ObjOk P w (upd H x o') h' x o') : HOk P w (upd H x o') h' := fun b u q => by
  have nown : ∀ c y, H c = some (.own y) → c ≠ x := fun c y r z => by subst z; rw [r] at mu; exact mu
  have ntup : ∀ c xs, H c = some (.tup xs) → c ≠ x := fun c xs r z => by subst z; rw [r] at mu; exact mu
  by_cases hb : b = x
  · subst hb; rw [upd_same] at q; cases q; exact new
  · rw [upd_ne hb] at q
    by_cases hbe : b = e
    · have q' : H b = some (.own x) := by
        rcases he with z | z
        · exact absurd (hbe.trans z) hb
        · rw [hbe]; exact z
      rw [q] at q'; cases q'
      obtain ⟨v, hv⟩ := heo
      exact ⟨v, by rw [hbe]; exact hv⟩
    · refine (ok b u q).stay (fun c v hc r => k c v ?_ r) (fun c r => by rw [upd_ne (nown c b r)]; exact r) fun c xs r => by rw [upd_ne (ntup c xs r)]; exact r
      rcases hc with rfl | hc
      · exact hbe
      · rintro rfl
        rcases he with z | z
        · exact nown c b hc z
        · rw [hc] at z; cases z; exact hb rfl
end
structure Un (fs ex : List Addr) (H H' : Hp) (h h' : Heap) : Prop where
  keep : ∀ b o, h.get? b = some o → H b = none → b ∉ fs → b ∉ ex → h'.get? b = some o
  slot : ∀ b o, h.get? b = some o → H b = none → b ∈ fs → b ∉ ex → ∃ sl, h'.get? b = some { o with slots := sl }
  free : ∀ b o, h.get? b = some o → H b = none → b ∉ ex → H' b = none
  there : ∀ b o, h.get? b = some o → b ∉ ex → ∃ o', h'.get? b = some o'
  tups : ∀ b xs, H b = some (.tup xs) → H' b = some (.tup xs)
  frzs : ∀ b o u, H b = some (.frz o u) → H' b = some (.frz o u)
  tbls : ∀ b ps, H b = some (.tbl ps) → ∃ more, H' b = some (.tbl (ps ++ more))
section
variable {fs fs' ex ex' : List Addr} {H H1 H2 : Hp} {h h1 h2 h' : Heap} {a x e : Addr} {o : HO}
theorem Un.any (u : Un fs ex H H1 h h1) {b : Addr} {ob : Obj} (q : h.get? b = some ob) (n : H b = none) (hx : b ∉ ex) : ∃ sl, h1.get? b = some { ob with slots := sl } := by
  by_cases hb : b ∈ fs
  · exact u.slot b ob q n hb hx
  · exact ⟨ob.slots, u.keep b ob q n hb hx⟩
theorem Un.kept (k : ∀ b u, h.get? b = some u → h'.get? b = some u) : Un fs ex H H h h' :=
  ⟨fun b ob q _ _ _ => k b ob q, fun b ob q _ _ _ => ⟨ob.slots, k b ob q⟩, fun _ _ _ n _ => n, fun b ob q _ => ⟨ob, k b ob q⟩, fun _ _ q => q, fun _ _ _ q => q, fun _ ps q => ⟨#[], by rw [q]; simp⟩⟩
theorem Un.refl : Un fs ex H H h h := Un.kept fun _ _ q => q
theorem Un.laid (k : ∀ b u, h.get? b = some u → h'.get? b = some u) (hp : h.objs.size ≤ a) (hn : H a = none) : Un fs ex H (upd H a o) h h' where
  keep := fun b u q _ _ _ => k b u q
  slot := fun b u q _ _ _ => ⟨u.slots, k b u q⟩
  free := fun b u q n _ => by rw [upd_ne (Nat.ne_of_lt (Nat.lt_of_lt_of_le (Heap.lt_size q) hp))]; exact n
  there := fun b u q _ => ⟨u, k b u q⟩
  tups := fun b xs q => by rw [upd_ne (ne_of_none q hn)]; exact q
  frzs := fun b u xs q => by rw [upd_ne (ne_of_none q hn)]; exact q
  tbls := fun b ps q => ⟨#[], by rw [upd_ne (ne_of_none q hn), q]; simp⟩
theorem Un.write (mu : Mut (H x)) (he : e = x ∨ H e = some (.own x)) (k : ∀ b u, b ≠ e → h.get? b = some u → h'.get? b = some u) (heo : ∃ u, h'.get? e = some u) : Un fs ex H (upd H x o) h h' := by
  have hx : ∀ b, H b = none → b ≠ x := fun b n z => by subst z; rw [n] at mu; exact mu
  have hb : ∀ b, H b = none → b ≠ e := fun b n z => by
    subst z
    rcases he with r | r
    · exact hx b n r
    · rw [n] at r; cases r
  have hm : ∀ b u, H b = some u → ¬ Mut (some u) → b ≠ x := fun b u q nm z => by subst z; rw [q] at mu; exact nm mu
  refine ⟨fun b u q n _ _ => k b u (hb b n) q, fun b u q n _ _ => ⟨u.slots, k b u (hb b n) q⟩, fun b u q n _ => by rw [upd_ne (hx b n)]; exact n, fun b u q _ => ?_,
    fun b xs q => by rw [upd_ne (hm b _ q fun z => z)]; exact q, fun b u xs q => by rw [upd_ne (hm b _ q fun z => z)]; exact q, fun b ps q => ⟨#[], by rw [upd_ne (hm b _ q fun z => z), q]; simp⟩⟩
  by_cases hbe : b = e
  · subst hbe; exact heo
  · exact ⟨u, k b u hbe q⟩
end
def trk (h : Heap) (H : Hp) : List Addr := (List.range h.objs.size).filter fun a => (H a).isSome
def hidT (h : Heap) (H : Hp) : Heap := PySem.W.hideAll h (trk h H)
theorem hidT_size (h : Heap) (H : Hp) : (hidT h H).objs.size = h.objs.size := PySem.W.hideAll_size _ _
theorem hidT_get {h : Heap} {H : Hp} {b : Addr} {o : Obj} (e : h.get? b = some o) (n : H b = none) : (hidT h H).get? b = some o :=
  PySem.W.hideAll_get _ e fun hm => by
    have q : (H b).isSome = true := (List.mem_filter.mp hm).2
    rw [n] at q; simp at q
theorem of_hidT {h : Heap} {H : Hp} {b : Addr} {o : Obj} (e : (hidT h H).get? b = some o) : h.get? b = some o ∧ H b = none := by
  have e' : h.get? b = some o := PySem.W.of_hideAll (trk h H) e
  refine ⟨e', ?_⟩
  cases q : H b with
  | none => rfl
  | some x =>
    have hm : b ∈ trk h H := List.mem_filter.mpr ⟨List.mem_range.mpr (Heap.lt_size e'), by simp [q]⟩
    have z : (hidT h H).get? b = none := PySem.W.hideAll_none (trk h H) hm
    rw [z] at e; cases e
end L2
namespace L2
open PySem PySem.Spec PyProof.Rows
structure Mod (K : PySem.W.Frag) (mg : Str → Option Value) (base : Heap) : Prop where
  kin : K.In base
  glob : base.Ns mainGlobals mg
  blt : ∃ mb, base.Ns builtinsNs mb ∧ ∀ x : Str, x ≠ "__name__" → mb x = bootBuiltins x
  nolimit : base.NoLimit
structure Cx where
  prog : Program
  w : World
  K : PySem.W.Frag
  mg : Str → Option Value
  base : Heap
  A : Around
  N : List Str
  s₀ : Shared
  H₀ : Hp
  env : Env
  outer : List Env
  stack : List Env
  ex : List Addr
  fn : Str → Bool
  calm : Bool
  pn : List (Addr × Obj)
  xe : Value → Shared → Prop
def frs (l : List Env) : List Addr := l.filterMap (·.frame)
abbrev Cx.fs (X : Cx) : List Addr := frs X.outer
def Vis (sc : Scope) (x : Str) : Prop := sc.names.lookup x = some .local ∨ sc.names.lookup x = some .cell ∨ sc.names.lookup x = some .free
def Loc (sc : Scope) (x : Str) : Prop := sc.names.lookup x = some .local ∨ sc.names.lookup x = some .cell
def Look (env : Env) (h : Heap) (m : Str → Option Value) (x : Str) (u : Value) : Prop :=
  (env.kindOf x = some .local ∧ m x = some u) ∨ ((env.kindOf x = some .cell ∨ env.kindOf x = some .free) ∧ ∃ c, env.cells.lookup x = some c ∧ h.IsCell c (some u))
structure Cx.Ok (X : Cx) : Prop where
  mod : Mod X.K X.mg X.base
  kind : X.env.scope.kind = .function
  glob : X.env.globals = mainGlobals
  blt : X.env.builtins = builtinsNs
  above : X.s₀.heap.objs.size ≤ X.env.locals
  inj : ∀ x y c, X.env.cells.lookup x = some c → X.env.cells.lookup y = some c → x = y
  has : ∀ x, (X.env.kindOf x = some .cell ∨ X.env.kindOf x = some .free) → ∃ c, X.env.cells.lookup x = some c
  cab : ∀ x c, X.fn x = true → X.env.cells.lookup x = some c → X.s₀.heap.objs.size ≤ c
  hd : X.calm = true → X.A.handled = none
  frames : X.A.frames = some X.stack
  stk : X.stack = X.outer ∨ (X.stack = X.env :: X.outer ∧ X.env.frame = some X.env.locals)
  exf : ∀ b ∈ X.ex, b ≠ X.env.locals ∧ ∀ x c, X.env.cells.lookup x = some c → c ≠ b
  bs : ∀ b o, X.base.get? b = some o → X.s₀.heap.get? b = some o ∧ X.H₀ b = none
  bsz : X.base.objs.size ≤ X.s₀.heap.objs.size
  noex : ∀ b o, X.base.get? b = some o → b ∉ X.ex
  exfs : ∀ b ∈ X.ex, b ∉ X.fs
  funs : X.s₀.heap.FunFrames X.base X.outer
  frf : ∀ b ∈ X.fs, X.H₀ b = none
structure Inv (X : Cx) (pins : List (Addr × Obj)) (σ : List (Option V)) (H : Hp) (s : Shared) : Prop where
  ok : X.Ok
  os : s.os = X.s₀.os
  bare : AllBare s.gens
  base : Un X.fs X.ex X.H₀ H X.s₀.heap s.heap
  loc : ∃ m, s.heap.Ns X.env.locals m ∧ ∀ (i : Nat) (x : Str) (v : V), X.N[i]? = some x → σ[i]? = some (some v) → Vis X.env.scope x → ∃ u, RelV v u ∧ Look X.env s.heap m x u
  cell : ∀ x c, X.env.cells.lookup x = some c → ∃ v, s.heap.IsCell c v
  free : H X.env.locals = none
  freeC : ∀ x c, X.env.cells.lookup x = some c → H c = none
  pin : ∀ p ∈ X.pn ++ pins, s.heap.get? p.1 = some p.2 ∧ H p.1 = none ∧ p.1 ≠ X.env.locals ∧ p.1 ∉ X.fs ∧ ∀ v, p.2.data ≠ .cell v
  hok : HOk X.prog X.w H s.heap
  len : σ.length = X.N.length
section
variable {X : Cx} {pins : List (Addr × Obj)} {σ : List (Option V)} {H H' : Hp} {s : Shared} {h' : Heap}
theorem Cx.Ok.nofr (ok : X.Ok) {b : Addr} {o : Obj} (e : X.base.get? b = some o) : b ∉ X.fs := fun hb => by
  have := (ok.funs.mem hb).1
  rw [e] at this; cases this
theorem Inv.bs (I : Inv X pins σ H s) : ∀ b o, X.base.get? b = some o → s.heap.get? b = some o ∧ H b = none := fun b o e =>
  ⟨I.base.keep b o (I.ok.bs b o e).1 (I.ok.bs b o e).2 (I.ok.nofr e) (I.ok.noex b o e), I.base.free b o (I.ok.bs b o e).1 (I.ok.bs b o e).2 (I.ok.noex b o e)⟩
theorem Inv.bk (I : Inv X pins σ H s) : ∀ b o, X.base.get? b = some o → s.heap.get? b = some o := fun b o e => (I.bs b o e).1
theorem Inv.mod (I : Inv X pins σ H s) : Mod X.K X.mg X.base := I.ok.mod
theorem Inv.kIn (I : Inv X pins σ H s) : X.K.In s.heap := I.ok.mod.kin.keeps I.bk
theorem Inv.lt (I : Inv X pins σ H s) : X.env.locals < s.heap.objs.size := let ⟨_, hn, _⟩ := I.loc; hn.lt
theorem Inv.sz (I : Inv X pins σ H s) : X.s₀.heap.objs.size ≤ s.heap.objs.size := Nat.le_trans I.ok.above (Nat.le_of_lt I.lt)
theorem Inv.nofs (I : Inv X pins σ H s) {a : Addr} (h : s.heap.objs.size ≤ a) : a ∉ X.fs := fun hb => by
  obtain ⟨_, o, ho, _⟩ := I.ok.funs.mem hb
  exact absurd (Nat.lt_of_lt_of_le (Heap.lt_size ho) (Nat.le_trans I.sz h)) (Nat.lt_irrefl _)
theorem Inv.cne (I : Inv X pins σ H s) : ∀ x c, X.env.cells.lookup x = some c → c ≠ X.env.locals := fun x c e z => by
  obtain ⟨v, o, ho, hd⟩ := I.cell x c e
  obtain ⟨m, ⟨o', es, ep, ho', hd', _⟩, _⟩ := I.loc
  rw [z, ho'] at ho; cases ho; rw [hd'] at hd; cases hd
theorem Inv.funs (I : Inv X pins σ H s) : s.heap.FunFrames X.base X.outer := by
  have all : ∀ (l : List Env), (∀ b ∈ frs l, b ∈ X.fs) → X.s₀.heap.FunFrames X.base l → s.heap.FunFrames X.base l := by
    intro l
    induction l with
    | nil => intro _ _; trivial
    | cons env r ih =>
      intro hs hl
      obtain ⟨hk, ⟨L, o, hf, hn, ho, hd⟩, hr⟩ := hl
      have hL : L ∈ X.fs := hs L (by unfold frs; rw [List.filterMap_cons, hf]; exact List.mem_cons_self)
      obtain ⟨sl, e⟩ := I.base.slot L o ho (I.ok.frf L hL) hL fun z => I.ok.exfs L z hL
      exact ⟨hk, ⟨L, _, hf, hn, e, hd⟩, ih (fun b hb => hs b (by unfold frs; rw [List.filterMap_cons, hf]; exact List.mem_cons_of_mem _ hb)) hr⟩
  exact all X.outer (fun _ hb => hb) I.ok.funs
theorem Inv.stack (I : Inv X pins σ H s) : s.heap.FunFrames X.base X.stack := by
  rcases I.ok.stk with e | ⟨e, hf⟩
  · rw [e]; exact I.funs
  · rw [e]
    obtain ⟨m, hn, _⟩ := I.loc
    refine .cons (by rw [I.ok.kind]; decide) hf hn ?_ I.funs
    exact Heap.get?_none_of_le (Nat.le_trans I.ok.bsz I.ok.above)
theorem Inv.stkSub (I : Inv X pins σ H s) : ∀ b ∈ frs X.stack, b ∈ X.env.locals :: X.fs := fun b hb => by
  rcases I.ok.stk with e | ⟨e, hf⟩
  · rw [e] at hb; exact List.mem_cons_of_mem _ hb
  · rw [e] at hb
    unfold frs at hb
    rw [List.filterMap_cons, hf] at hb
    exact hb
theorem Inv.stkFree (I : Inv X pins σ H s) : ∀ b ∈ frs X.stack, H b = none := fun b hb => by
  rcases List.mem_cons.mp (I.stkSub b hb) with e | hb
  · rw [e]; exact I.free
  · obtain ⟨_, o, ho, _⟩ := I.ok.funs.mem hb
    exact I.base.free b o ho (I.ok.frf b hb) fun z => I.ok.exfs b z hb
theorem Inv.step {g' : Array GenState} {t' : Nat} {d' : Drawn} {ch : List Addr} (I : Inv X pins σ H s)
    (hch : ∀ b ∈ ch, (b ∈ X.ex ∨ X.s₀.heap.objs.size ≤ b) ∧ b ≠ X.env.locals ∧ (∀ x c, X.env.cells.lookup x = some c → c ≠ b) ∧ ∀ p ∈ X.pn ++ pins, p.1 ≠ b)
    (keep : ∀ b o, b ≠ X.env.locals → b ∉ X.fs → b ∉ ch → s.heap.get? b = some o → H b = none → h'.get? b = some o)
    (slot : ∀ b o, b ≠ X.env.locals → b ∈ X.fs → b ∉ ch → s.heap.get? b = some o → H b = none → ∃ sl, h'.get? b = some { o with slots := sl }) (free : ∀ b o, b ∉ ch → s.heap.get? b = some o → H b = none → H' b = none)
    (there : ∀ b o, b ∉ ch → s.heap.get? b = some o → ∃ o', h'.get? b = some o')
    (tups : ∀ b xs, H b = some (.tup xs) → H' b = some (.tup xs)) (frzs : ∀ b o u, H b = some (.frz o u) → H' b = some (.frz o u)) (tbls : ∀ b ps, H b = some (.tbl ps) → ∃ more, H' b = some (.tbl (ps ++ more)))
    (ns : ∀ m, s.heap.Ns X.env.locals m → h'.Ns X.env.locals m) (hok : HOk X.prog X.w H' h') (hg : AllBare g') :
    Inv X pins σ H' { s with heap := h', gens := g', drawn := d', toks := t' } := by
  have neL : ∀ b o, X.s₀.heap.get? b = some o → b ≠ X.env.locals := fun b o e => Nat.ne_of_lt (Nat.lt_of_lt_of_le (Heap.lt_size e) I.ok.above)
  have neC : ∀ b o, X.s₀.heap.get? b = some o → b ∉ X.ex → b ∉ ch := fun b o e hx hb => by
    rcases (hch b hb).1 with z | z
    · exact hx z
    · exact absurd (Nat.lt_of_lt_of_le (Heap.lt_size e) z) (Nat.lt_irrefl _)
  have cellK : ∀ x c, X.env.cells.lookup x = some c → ∀ v, s.heap.IsCell c v → h'.IsCell c v := fun x c e v ⟨o, ho, hd⟩ => by
    have nch : c ∉ ch := fun z => (hch c z).2.2.1 x c e rfl
    by_cases hc : c ∈ X.fs
    · obtain ⟨sl, q⟩ := slot c o (I.cne x c e) hc nch ho (I.freeC x c e)
      exact ⟨_, q, hd⟩
    · exact ⟨o, keep c o (I.cne x c e) hc nch ho (I.freeC x c e), hd⟩
  refine ⟨I.ok, I.os, hg, ⟨fun b o e n hb hx => ?_, fun b o e n hb hx => ?_, fun b o e n hx => ?_, fun b o e hx => ?_, fun b xs e => tups b xs (I.base.tups b xs e), fun b o xs e => frzs b o xs (I.base.frzs b o xs e), fun b ps e => ?_⟩, ?_, fun x c e => ?_, ?_, fun x c e => ?_, fun p hp => ?_, hok, I.len⟩
  · exact keep b o (neL b o e) hb (neC b o e hx) (I.base.keep b o e n hb hx) (I.base.free b o e n hx)
  · obtain ⟨sl, e1⟩ := I.base.slot b o e n hb hx
    obtain ⟨sl', e2⟩ := slot b _ (neL b o e) hb (neC b o e hx) e1 (I.base.free b o e n hx)
    exact ⟨sl', e2⟩
  · obtain ⟨o', e1⟩ := I.base.there b o e hx
    exact free b o' (neC b o e hx) e1 (I.base.free b o e n hx)
  · obtain ⟨o', e1⟩ := I.base.there b o e hx
    exact there b o' (neC b o e hx) e1
  · obtain ⟨m1, e1⟩ := I.base.tbls b ps e
    obtain ⟨m2, e2⟩ := tbls b _ e1
    exact ⟨m1 ++ m2, by rw [e2, Array.append_assoc]⟩
  · obtain ⟨m, hn, hl⟩ := I.loc
    refine ⟨m, ns m hn, fun i x v e1 e2 e3 => ?_⟩
    obtain ⟨u, r, l⟩ := hl i x v e1 e2 e3
    refine ⟨u, r, ?_⟩
    rcases l with l | ⟨k, c, e, z⟩
    · exact .inl l
    · exact .inr ⟨k, c, e, cellK x c e _ z⟩
  · obtain ⟨v, z⟩ := I.cell x c e
    exact ⟨v, cellK x c e v z⟩
  · obtain ⟨m, ⟨o, _, _, ho, _⟩, _⟩ := I.loc
    exact free _ o (fun z => (hch _ z).2.1 rfl) ho I.free
  · obtain ⟨v, o, ho, hd⟩ := I.cell x c e
    exact free c o (fun z => (hch c z).2.2.1 x c e rfl) ho (I.freeC x c e)
  · obtain ⟨e, n, ne, nf, d⟩ := I.pin p hp
    have nch : p.1 ∉ ch := fun z => (hch p.1 z).2.2.2 p hp rfl
    exact ⟨keep p.1 p.2 ne nf nch e n, free p.1 p.2 nch e n, ne, nf, d⟩
theorem Inv.un {t' : Nat} (I : Inv X pins σ H s) (u : Un X.fs [] H H' s.heap h') (hok : HOk X.prog X.w H' h') : Inv X pins σ H' { s with heap := h', toks := t' } := by
  obtain ⟨m, ⟨o, es, ep, ho, r⟩, _⟩ := id I.loc
  obtain ⟨sl, hL⟩ := u.any ho I.free (by simp)
  exact I.step (g' := s.gens) (d' := s.drawn) (ch := []) (fun _ z => nomatch z) (fun b o _ hb _ e n => u.keep b o e n hb (by simp)) (fun b o _ hb _ e n => u.slot b o e n hb (by simp)) (fun b o _ e n => u.free b o e n (by simp)) (fun b o _ e => u.there b o e (by simp)) u.tups u.frzs u.tbls (fun m' hm => by
    obtain ⟨o', es', ep', ho', r'⟩ := hm
    rw [ho] at ho'; cases ho'
    exact ⟨_, es', ep', hL, r'⟩) hok I.bare
theorem Inv.call {g' : Array GenState} {t' : Nat} {d' : Drawn} {ch : List Addr} (I : Inv X pins σ H s) (u : Un (frs X.stack) ch H H' s.heap h') (hok : HOk X.prog X.w H' h') (hg : AllBare g')
    (hch : ∀ b ∈ ch, (b ∈ X.ex ∨ X.s₀.heap.objs.size ≤ b) ∧ b ≠ X.env.locals ∧ (∀ x c, X.env.cells.lookup x = some c → c ≠ b) ∧ ∀ p ∈ X.pn ++ pins, p.1 ≠ b) :
    Inv X pins σ H' { s with heap := h', gens := g', drawn := d', toks := t' } := by
  obtain ⟨m, ⟨o, es, ep, ho, r⟩, _⟩ := id I.loc
  obtain ⟨sl, hL⟩ := u.any ho I.free fun z => (hch _ z).2.1 rfl
  exact I.step (ch := ch) hch (fun b o hL hb hc e n => u.keep b o e n (fun z => (List.mem_cons.mp (I.stkSub b z)).elim hL hb) hc) (fun b o _ _ hc e n => u.any e n hc) (fun b o hc e n => u.free b o e n hc) (fun b o hc e => u.there b o e hc) u.tups u.frzs u.tbls (fun m' hm => by
    obtain ⟨o', es', ep', ho', r'⟩ := hm
    rw [ho] at ho'; cases ho'
    exact ⟨_, es', ep', hL, r'⟩) hok hg
theorem Inv.turned {t' : Nat} {it : Addr} (I : Inv X pins σ H s) (k : ∀ b o, b ≠ it → s.heap.get? b = some o → h'.get? b = some o) (hn : H it = none) (hL : it ≠ X.env.locals)
    (h1 : it ∈ X.ex ∨ X.s₀.heap.objs.size ≤ it) (h2 : ∀ x c, X.env.cells.lookup x = some c → c ≠ it) (h3 : ∀ p ∈ X.pn ++ pins, p.1 ≠ it) : Inv X pins σ H { s with heap := h', toks := t' } := by
  have nit : ∀ b u, H b = some u → b ≠ it := fun b u e z => by rw [z, hn] at e; cases e
  refine I.step (g' := s.gens) (d' := s.drawn) (ch := [it]) (fun b hb => ?_) (fun b o _ _ hc e _ => k b o (fun z => hc (by simp [z])) e) (fun b o _ _ hc e _ => ⟨o.slots, k b o (fun z => hc (by simp [z])) e⟩) (fun _ _ _ _ n => n)
    (fun b o hc e => ⟨o, k b o (fun z => hc (by simp [z])) e⟩) (fun _ _ e => e) (fun _ _ _ e => e) (fun b ps e => ⟨#[], by rw [e]; simp⟩) (fun m hm => ?_) (fun b u e => ?_) I.bare
  · have e : b = it := by simpa using hb
    subst e
    exact ⟨h1, hL, h2, h3⟩
  · obtain ⟨o, es, ep, ho, r⟩ := hm
    exact ⟨o, es, ep, k _ o (Ne.symm hL) ho, r⟩
  · refine (I.hok b u e).stay (fun c v hc q => k c v ?_ q) (fun _ q => q) fun _ _ q => q
    rcases hc with z | z
    · rw [z]; exact nit b u e
    · exact nit c _ z
theorem Inv.tok (I : Inv X pins σ H s) (t : Nat) : Inv X pins σ H { s with toks := t } := I.un (h' := s.heap) (t' := t) Un.refl I.hok
theorem Inv.kept {t' : Nat} (I : Inv X pins σ H s) (k : ∀ b u, s.heap.get? b = some u → h'.get? b = some u) : Inv X pins σ H { s with heap := h', toks := t' } := I.un (Un.kept k) (I.hok.kept k)
theorem Inv.laid {a : Addr} {o : HO} {t' : Nat} (I : Inv X pins σ H s) (k : ∀ b u, s.heap.get? b = some u → h'.get? b = some u) (hp : s.heap.objs.size ≤ a) (new : ObjOk X.prog X.w (upd H a o) h' a o) :
    Inv X pins σ (upd H a o) { s with heap := h', toks := t' } := I.un (Un.laid k hp (I.hok.fresh hp)) (I.hok.laid k hp new)
theorem Inv.write {x e : Addr} {o : HO} {t' : Nat} (I : Inv X pins σ H s) (mu : Mut (H x)) (he : e = x ∨ H e = some (.own x)) (k : ∀ b u, b ≠ e → s.heap.get? b = some u → h'.get? b = some u) (heo : ∃ u, h'.get? e = some u)
    (new : ObjOk X.prog X.w (upd H x o) h' x o) : Inv X pins σ (upd H x o) { s with heap := h', toks := t' } := I.un (Un.write mu he k heo) (I.hok.write mu he k heo new)
theorem Inv.pins_of {pins' : List (Addr × Obj)} (I : Inv X pins σ H s) (h : ∀ p ∈ pins', s.heap.get? p.1 = some p.2 ∧ H p.1 = none ∧ p.1 ≠ X.env.locals ∧ p.1 ∉ X.fs ∧ ∀ v, p.2.data ≠ .cell v) : Inv X pins' σ H s :=
  ⟨I.ok, I.os, I.bare, I.base, I.loc, I.cell, I.free, I.freeC, fun p hp => (List.mem_append.mp hp).elim (fun z => I.pin p (List.mem_append_left _ z)) (h p), I.hok, I.len⟩
theorem nodup_ix {N : List Str} (hN : N.Nodup) {i j : Nat} {x : Str} (a : N[i]? = some x) (b : N[j]? = some x) : i = j := by
  obtain ⟨h1, e1⟩ := List.getElem?_eq_some_iff.mp a
  obtain ⟨h2, e2⟩ := List.getElem?_eq_some_iff.mp b
  exact (List.getElem_inj hN).mp (e1.trans e2.symm)
theorem store_ok2 {M : Model} {A : Around} {E : Value → Shared → Prop} {i : Nat} {x : Str} {v : V} {u : Value} {Q : Unit → Shared → Prop} (I : Inv X pins σ H s) (hN : X.N.Nodup) (hi : X.N[i]? = some x) (hx : Loc X.env.scope x) (r : RelV v u)
    (h : ∀ s', Inv X pins (σ.set i (some v)) H s' → (∃ a, Heap.SameBut a s.heap s'.heap ∧ (a = X.env.locals ∨ X.env.cells.lookup x = some a)) → Q () s') (hf : X.fn x = true ∨ X.env.scope.names.lookup x = some .local := by first | exact .inl rfl | exact .inr rfl | assumption) : wpAny M A (storeName X.env x u) Q E s := by
  obtain ⟨m, hn, hl⟩ := id I.loc
  have hcls : (X.env.scope.kind == .class || (X.env.scope.kind == .module && X.env.locals != X.env.globals)) = false := by rw [I.ok.kind]; rfl
  have hiσ : i < σ.length := by rw [I.len]; exact (List.getElem?_eq_some_iff.mp hi).1
  have cne := I.cne
  have tracked : ∀ {a : Addr} {h' : Heap}, (∃ o, s.heap.get? a = some o ∧ H a = none) → Heap.SameBut a s.heap h' → HOk X.prog X.w H h' := fun {a h'} ha hs b ob e => by
    obtain ⟨_, _, hfree⟩ := ha
    refine (I.hok b ob e).stay (fun c w' hc q => (hs.2 c ?_).trans q) (fun _ q => q) fun _ _ q => q
    rintro rfl
    rcases hc with rfl | hc
    · rw [hfree] at e; cases e
    · rw [hfree] at hc; cases hc
  rcases hx with hk | hk
  · refine wpAny_storeName_local hk hn (fun h' hn' hs => ?_) hcls
    obtain ⟨oL, _, _, hoL, _⟩ := id hn
    refine h _ ⟨I.ok, I.os, I.bare, ⟨fun b o e n hb hx => ?_, fun b o e n hb hx => ?_, I.base.free, fun b o e hx => ?_, I.base.tups, I.base.frzs, I.base.tbls⟩, ⟨_, hn', fun j y v' e1 e2 e3 => ?_⟩, fun y c e => ?_, I.free, I.freeC, fun p hp => ?_, tracked ⟨oL, hoL, I.free⟩ hs, by simpa using I.len⟩ ⟨_, hs, .inl rfl⟩
    · exact (hs.2 b (Nat.ne_of_lt (Nat.lt_of_lt_of_le (Heap.lt_size e) I.ok.above))).trans (I.base.keep b o e n hb hx)
    · obtain ⟨sl, e1⟩ := I.base.slot b o e n hb hx
      exact ⟨sl, (hs.2 b (Nat.ne_of_lt (Nat.lt_of_lt_of_le (Heap.lt_size e) I.ok.above))).trans e1⟩
    · obtain ⟨o', e1⟩ := I.base.there b o e hx
      exact ⟨o', (hs.2 b (Nat.ne_of_lt (Nat.lt_of_lt_of_le (Heap.lt_size e) I.ok.above))).trans e1⟩
    · by_cases hj : j = i
      · subst hj
        rw [hi] at e1; cases e1
        rw [List.getElem?_set_self hiσ] at e2
        cases e2
        exact ⟨u, r, .inl ⟨hk, by simp⟩⟩
      · rw [List.getElem?_set_ne (Ne.symm hj)] at e2
        obtain ⟨u', r', q⟩ := hl j y v' e1 e2 e3
        refine ⟨u', r', ?_⟩
        rcases q with ⟨k, e⟩ | ⟨k, c, e, z⟩
        · refine .inl ⟨k, ?_⟩
          have : y ≠ x := fun e => hj (nodup_ix hN e1 (e ▸ hi))
          simp [this, e]
        · exact .inr ⟨k, c, e, z.sameBut hs (cne y c e)⟩
    · obtain ⟨w', z⟩ := I.cell y c e
      exact ⟨w', z.sameBut hs (cne y c e)⟩
    · obtain ⟨e, n, ne, nf, d⟩ := I.pin p hp
      exact ⟨(hs.2 p.1 ne).trans e, n, ne, nf, d⟩
  · have hfn : X.fn x = true := by
      rcases hf with z | z
      · exact z
      · rw [z] at hk; cases hk
    obtain ⟨c, hc⟩ := I.ok.has x (.inl hk)
    obtain ⟨w', z⟩ := I.cell x c hc
    refine wpAny_storeName_cell I.ok.kind hk hc z (fun h' hc' hs => ?_)
    obtain ⟨oc, hoc, hocd⟩ := id z
    refine h { s with heap := h' } ⟨I.ok, I.os, I.bare, ⟨fun b o e n hb hx => ?_, fun b o e n hb hx => ?_, I.base.free, fun b o e hx => ?_, I.base.tups, I.base.frzs, I.base.tbls⟩, ⟨m, hn.sameBut hs (Ne.symm (cne x c hc)), fun j y v' e1 e2 e3 => ?_⟩, fun y c' e => ?_, I.free, I.freeC, fun p hp => ?_, tracked ⟨oc, hoc, I.freeC x c hc⟩ hs, by simpa using I.len⟩ ⟨c, hs, .inr hc⟩
    · exact (hs.2 b (Nat.ne_of_lt (Nat.lt_of_lt_of_le (Heap.lt_size e) (I.ok.cab x c hfn hc)))).trans (I.base.keep b o e n hb hx)
    · obtain ⟨sl, e1⟩ := I.base.slot b o e n hb hx
      exact ⟨sl, (hs.2 b (Nat.ne_of_lt (Nat.lt_of_lt_of_le (Heap.lt_size e) (I.ok.cab x c hfn hc)))).trans e1⟩
    · obtain ⟨o', e1⟩ := I.base.there b o e hx
      exact ⟨o', (hs.2 b (Nat.ne_of_lt (Nat.lt_of_lt_of_le (Heap.lt_size e) (I.ok.cab x c hfn hc)))).trans e1⟩
    · by_cases hj : j = i
      · subst hj
        rw [hi] at e1; cases e1
        rw [List.getElem?_set_self hiσ] at e2
        cases e2
        exact ⟨u, r, .inr ⟨.inl hk, c, hc, hc'⟩⟩
      · rw [List.getElem?_set_ne (Ne.symm hj)] at e2
        obtain ⟨u', r', q⟩ := hl j y v' e1 e2 e3
        refine ⟨u', r', ?_⟩
        rcases q with q | ⟨k, c', e, z'⟩
        · exact .inl q
        · refine .inr ⟨k, c', e, z'.sameBut hs ?_⟩
          rintro rfl
          exact hj (nodup_ix hN e1 (I.ok.inj _ _ _ e hc ▸ hi))
    · by_cases hcc : c' = c
      · subst hcc; exact ⟨_, hc'⟩
      · obtain ⟨w2, z2⟩ := I.cell y c' e
        exact ⟨w2, z2.sameBut hs hcc⟩
    · obtain ⟨e, n, ne, nf, d⟩ := I.pin p hp
      refine ⟨(hs.2 p.1 ?_).trans e, n, ne, nf, d⟩
      intro q
      rw [q, hoc] at e
      have q' : oc = p.2 := Option.some.inj e
      exact d w' (by rw [← q']; exact hocd)
theorem store_ok {M : Model} {A : Around} {E : Value → Shared → Prop} {i : Nat} {x : Str} {v : V} {u : Value} {Q : Unit → Shared → Prop} (I : Inv X pins σ H s) (hN : X.N.Nodup) (hi : X.N[i]? = some x) (hx : Loc X.env.scope x) (r : RelV v u)
    (h : ∀ s', Inv X pins (σ.set i (some v)) H s' → Q () s') (hf : X.fn x = true ∨ X.env.scope.names.lookup x = some .local := by first | exact .inl rfl | exact .inr rfl | assumption) : wpAny M A (storeName X.env x u) Q E s :=
  store_ok2 I hN hi hx r (fun s' I' _ => h s' I') hf
theorem Inv.call' {s' : Shared} {ch : List Addr} (I : Inv X pins σ H s) (ho : s'.os = s.os) (u : Un (frs X.stack) ch H H' s.heap s'.heap) (hok : HOk X.prog X.w H' s'.heap) (hg : AllBare s'.gens)
    (hch : ∀ b ∈ ch, (b ∈ X.ex ∨ X.s₀.heap.objs.size ≤ b) ∧ b ≠ X.env.locals ∧ (∀ x c, X.env.cells.lookup x = some c → c ≠ b) ∧ ∀ p ∈ X.pn ++ pins, p.1 ≠ b) : Inv X pins σ H' s' := by
  obtain ⟨h', g', d', t', o'⟩ := s'
  have e : o' = s.os := ho
  subst e
  exact I.call (g' := g') (t' := t') (d' := d') u hok hg hch
end
abbrev XK := Value → Option Addr → Hp → Prop
abbrev St := List (Option V)
abbrev VK := V → Hp → Prop
abbrev TE := St → Hp → VK → Prop
abbrev TT := St → Hp → (Bool → Hp → Prop) → Prop
abbrev TA := St → Hp → (List V → Hp → Prop) → Prop
structure Ends where
  nx : St → Hp → Prop
  rt : VK
  bk : St → Hp → Prop := fun _ _ => False
  ct : St → Hp → Prop := fun _ _ => False
abbrev TS := Ends → St → Hp → Prop
def EP (X : Cx) (pins : List (Addr × Obj)) (σ : St) (Q : VK) (u : Value) (s' : Shared) : Prop := ∃ v H', Inv X pins σ H' s' ∧ RelV v u ∧ Q v H'
def TP (X : Cx) (pins : List (Addr × Obj)) (σ : St) (Q : Bool → Hp → Prop) (b : Bool) (s' : Shared) : Prop := ∃ H', Inv X pins σ H' s' ∧ Q b H'
def AP (X : Cx) (pins : List (Addr × Obj)) (σ : St) (Q : List V → Hp → Prop) (us : List Value) (s' : Shared) : Prop := ∃ vs H', Inv X pins σ H' s' ∧ Vals vs us ∧ Q vs H'
def SP (X : Cx) (pins : List (Addr × Obj)) (D : Ends) (f : Flow) (s' : Shared) : Prop :=
  match f with
  | .next => ∃ σ' H', Inv X pins σ' H' s' ∧ D.nx σ' H'
  | .brk => ∃ σ' H', Inv X pins σ' H' s' ∧ D.bk σ' H'
  | .cont => ∃ σ' H', Inv X pins σ' H' s' ∧ D.ct σ' H'
  | .ret u => ∃ v σ' H', Inv X pins σ' H' s' ∧ RelV v u ∧ D.rt v H'
def PE (X : Cx) (e : Expr) (t : TE) : Prop :=
  ∀ (pins : List (Addr × Obj)) (s : Shared) (σ : St) (H : Hp) (Q : VK), Inv X pins σ H s → t σ H Q → wpAny (model X.prog X.w) X.A (eval e X.env) (EP X pins σ Q) X.xe s
def PT (X : Cx) (e : Expr) (t : TT) : Prop :=
  ∀ (pins : List (Addr × Obj)) (s : Shared) (σ : St) (H : Hp) (Q : Bool → Hp → Prop), Inv X pins σ H s → t σ H Q → wpAny (model X.prog X.w) X.A (isTrue e X.env (eval e X.env)) (TP X pins σ Q) X.xe s
def PW (X : Cx) (e : Expr) (t : TT) : Prop :=
  ∀ (whole : Sem Value) (pins : List (Addr × Obj)) (s : Shared) (σ : St) (H : Hp) (Q : Bool → Hp → Prop), Inv X pins σ H s → t σ H Q → wpAny (model X.prog X.w) X.A (isTrue e X.env whole) (TP X pins σ Q) X.xe s
theorem PW.pt {X : Cx} {e : Expr} {t : TT} (h : PW X e t) : PT X e t := h _
def PA (X : Cx) (es : List Expr) (t : TA) : Prop :=
  ∀ (pos : Pos) (pins : List (Addr × Obj)) (s : Shared) (σ : St) (H : Hp) (Q : List V → Hp → Prop), Inv X pins σ H s → t σ H Q → wpAny (model X.prog X.w) X.A (spliced (backTo pos (starEach es X.env))) (AP X pins σ Q) X.xe s
def PS (X : Cx) (st : Stmt) (t : TS) : Prop :=
  ∀ (pins : List (Addr × Obj)) (s : Shared) (σ : St) (H : Hp) (D : Ends), Inv X pins σ H s → t D σ H → wpAny (model X.prog X.w) X.A (exec st X.env) (SP X pins D) X.xe s
def PSs (X : Cx) (st : List Stmt) (t : TS) : Prop :=
  ∀ (pins : List (Addr × Obj)) (s : Shared) (σ : St) (H : Hp) (D : Ends), Inv X pins σ H s → t D σ H → wpAny (model X.prog X.w) X.A (execs st X.env) (SP X pins D) X.xe s
theorem thn {α : Type} {t : Sem α} {Q Q' : α → Shared → Prop} {M : Model} {A : Around} {E : Value → Shared → Prop} {s : Shared} (h : wpAny M A t Q E s) (hQ : ∀ a s, Q a s → Q' a s) : wpAny M A t Q' E s := wpAny_mono h hQ fun _ _ x => x
end L2
namespace L2
open PySem PySem.Spec PyProof.Rows
section
variable {X : Cx}
def tVar (i : Nat) : TE := fun σ H Q => ∃ v, σ[i]? = some (some v) ∧ Q v H
def tC (v : V) : TE := fun _ H Q => Q v H
theorem pe_var {i : Nat} {x : Str} {pos : Pos} (hN : X.N[i]? = some x) (hv : Vis X.env.scope x) (hd : (x == ("__debug__" : Str)) = false := by decide) (hcd : (x == ("__classdict__" : Str)) = false := by decide) : PE X (.Name x pos) (tVar i) := by
  intro pins s σ H Q I h
  obtain ⟨v, e, h⟩ := h
  obtain ⟨m, hn, hl⟩ := I.loc
  obtain ⟨u, r, l⟩ := hl i x v hN e hv
  have fin : EP X pins σ Q u s := ⟨v, H, I, r, h⟩
  rcases l with ⟨hk, hm⟩ | ⟨hk, c, hc, hcell⟩
  · exact wpAny_Name (wpAny_loadName_local I.ok.kind hk hn hm fin) hd
  · rcases hk with hk | hk
    · exact wpAny_Name (wpAny_loadName_cell I.ok.kind hk hc hcell fin) hd
    · exact wpAny_Name (wpAny_loadName_free I.ok.kind hk hc hcell fin hcd) hd
theorem pe_int {i j pos} : PE X (.Constant (.int i) j pos) (tC (.int i)) := fun _ _ _ H _ I h => wpAny_Constant_int ⟨.int i, H, I.tok _, ⟨_, rfl⟩, h⟩
theorem pe_bl {b j pos} : PE X (.Constant (.bool b) j pos) (tC (.bl b)) := fun _ _ _ H _ I h => Constant_bool ⟨.bl b, H, I, rfl, h⟩
theorem pe_non {j pos} : PE X (.Constant .none j pos) (tC .non) := fun _ _ _ H _ I h => Constant_none ⟨.non, H, I, rfl, h⟩
theorem pe_str {x j pos} : PE X (.Constant (.str x) j pos) (tC (.str x)) := fun _ _ _ H _ I h => Calls.Constant_str ⟨.str x, H, I.tok _, ⟨_, rfl⟩, h⟩
def Gl (X : Cx) (x : Str) : Prop := X.env.kindOf x = some .globalImplicit
theorem ld_glob {E : Value → Shared → Prop} {pins : List (Addr × Obj)} {s : Shared} {σ : St} {H : Hp} {x : Str} {u : Value} {pos : Pos} {Q : Value → Shared → Prop} (I : Inv X pins σ H s) (hg : Gl X x) (hm : X.mg x = some u) (h : Q u s)
    (hd : (x == ("__debug__" : Str)) = false := by decide) : wpAny (model X.prog X.w) X.A (eval (.Name x pos) X.env) Q E s :=
  Calls.Name_function_global I.ok.kind hg (Calls.loadGlobal_global (by rw [I.ok.glob]; exact I.mod.glob.keeps I.bk) hm h) hd
theorem ld_blt {E : Value → Shared → Prop} {pins : List (Addr × Obj)} {s : Shared} {σ : St} {H : Hp} {x : Str} {u : Value} {pos : Pos} {Q : Value → Shared → Prop} (I : Inv X pins σ H s) (hg : Gl X x) (hm : X.mg x = none) (hv : bootBuiltins x = some u) (h : Q u s)
    (hn : x ≠ "__name__" := by decide) (hd : (x == ("__debug__" : Str)) = false := by decide) : wpAny (model X.prog X.w) X.A (eval (.Name x pos) X.env) Q E s := by
  obtain ⟨mb, h1, h2⟩ := I.mod.blt
  exact Calls.Name_function_global I.ok.kind hg (Calls.loadGlobal_builtin (by rw [I.ok.glob]; exact I.mod.glob.keeps I.bk) hm (by rw [I.ok.blt]; exact h1.keeps I.bk) ((h2 x hn).trans hv) h) hd
theorem pe_glob {x : Str} {v : V} {u : Value} {pos : Pos} (hg : Gl X x) (hm : X.mg x = some u) (r : RelV v u) (hd : (x == ("__debug__" : Str)) = false := by decide) : PE X (.Name x pos) (tC v) :=
  fun _ _ _ H _ I h => ld_glob I hg hm ⟨v, H, I, r, h⟩ hd
theorem pe_bltn {x : Str} {v : V} {u : Value} {pos : Pos} (hg : Gl X x) (hm : X.mg x = none) (hv : bootBuiltins x = some u) (r : RelV v u) (hn : x ≠ "__name__" := by decide) (hd : (x == ("__debug__" : Str)) = false := by decide) : PE X (.Name x pos) (tC v) :=
  fun _ _ _ H _ I h => ld_blt I hg hm hv ⟨v, H, I, r, h⟩ hn hd
variable {a b : Expr} {ta tb : TE} {pos : Pos}
def PC (X : Cx) (op : CmpOp) (a b : Expr) (t : TE) : Prop :=
  ∀ (pins : List (Addr × Obj)) (s : Shared) (σ : St) (H : Hp) (Q : VK), Inv X pins σ H s → t σ H Q →
    wpAny (model X.prog X.w) X.A (eval a X.env) (fun v s₁ => wpAny (model X.prog X.w) X.A (eval b X.env) (fun u s₂ => wpAny (model X.prog X.w) X.A (compareOp op v u) (EP X pins σ Q) X.xe s₂) X.xe s₁) X.xe s
def tIsN (ta : TE) : TE := fun σ H Q => ta σ H fun x H1 => Q (.bl (decide (x = .non))) H1
theorem RelV.none_iff {x : V} {v : Value} (r : RelV x v) : (v == Value.none) = decide (x = .non) := by
  cases x with
  | non => cases r; rfl
  | bl _ => cases r; rfl
  | int _ => obtain ⟨t, rfl⟩ := r; rfl
  | str _ => obtain ⟨t, rfl⟩ := r; rfl
  | byt _ => obtain ⟨t, rfl⟩ := r; rfl
  | flt _ => obtain ⟨t, rfl⟩ := r; rfl
  | ref _ => cases r; rfl
  | ty _ => cases r; rfl
theorem pc_isN {j pos'} (ha : PE X a ta) : PC X .Is a (.Constant .none j pos') (tIsN ta) := by
  intro pins s σ H Q I h
  refine thn (ha pins s σ H _ I h) fun v s1 ⟨x, H1, I1, r1, q1⟩ => ?_
  exact Constant_none (is_none_gen ⟨.bl _, H1, I1, by rw [r1.none_iff]; rfl, q1⟩)
def tB (t : TE) : TT := fun σ H Q => t σ H fun x H1 => ∃ c, x = .bl c ∧ Q c H1
theorem pt_cmp {op : CmpOp} {t : TE} (h : PC X op a b t) (h1 : behindInMarks op b = false := by first | exact nobehind _ (by decide) (by decide) | rfl) : PT X (.Compare a [op] [b] pos) (tB t) := by
  intro pins s σ H Q I hw
  refine wpAny_isTrue_Compare1 (thn (h pins s σ H _ I hw) fun v s1 h1 => thn h1 fun u s2 h2 => thn h2 fun c s3 ⟨x, H1, I1, r1, q1⟩ => ?_) h1
  obtain ⟨d, rfl, q⟩ := q1
  cases r1
  exact wpAny_truthy_bool ⟨H1, I1, q⟩
theorem pt_val {e : Expr} {t : TE} (h : PE X e t) (he : ∀ whole, isTrue e X.env whole = (do let v ← whole; standAt e.pos; holding [v] (truthy v)) := by intro _; rfl) : PT X e (tB t) := by
  intro pins s σ H Q I hw
  refine isTrue_plain (thn (h pins s σ H _ I hw) fun v s1 ⟨x, H1, I1, r1, q1⟩ => ?_) (he _)
  obtain ⟨d, rfl, q⟩ := q1
  cases r1
  exact wpAny_truthy_bool ⟨H1, I1, q⟩
variable {tA tB' : TT} {rest : List Expr}
def tAnd (t u : TT) : TT := fun σ H Q => t σ H fun c H1 => if c = true then u σ H1 Q else Q false H1
def tOr (t u : TT) : TT := fun σ H Q => t σ H fun c H1 => if c = true then Q true H1 else u σ H1 Q
def tNot (t : TT) : TT := fun σ H Q => t σ H fun c H1 => Q (!c) H1
theorem pw_and1 (ha : PT X a tA) : PW X (.BoolOp .And [a] pos) tA := by
  intro wh pins s σ H Q I h
  refine isTrue_and (thn (ha pins s σ H Q I h) fun c s1 e => ?_)
  cases c with
  | true => exact isTrue_and_nil e
  | false => exact e
theorem pw_or1 (ha : PT X a tA) : PW X (.BoolOp .Or [a] pos) tA := by
  intro wh pins s σ H Q I h
  refine isTrue_or (thn (ha pins s σ H Q I h) fun c s1 e => ?_)
  cases c with
  | false => exact isTrue_or_nil e
  | true => exact e
theorem pw_and (ha : PT X a tA) (hb : PW X (.BoolOp .And (b :: rest) pos) tB') : PW X (.BoolOp .And (a :: b :: rest) pos) (tAnd tA tB') := by
  intro wh pins s σ H Q I h
  refine isTrue_and (thn (ha pins s σ H _ I h) fun c s1 ⟨H1, I1, q1⟩ => ?_)
  cases c with
  | true => exact hb wh pins s1 σ H1 Q I1 q1
  | false => exact ⟨H1, I1, q1⟩
theorem pw_or (ha : PT X a tA) (hb : PW X (.BoolOp .Or (b :: rest) pos) tB') : PW X (.BoolOp .Or (a :: b :: rest) pos) (tOr tA tB') := by
  intro wh pins s σ H Q I h
  refine isTrue_or (thn (ha pins s σ H _ I h) fun c s1 ⟨H1, I1, q1⟩ => ?_)
  cases c with
  | true => exact ⟨H1, I1, q1⟩
  | false => exact hb wh pins s1 σ H1 Q I1 q1
theorem pt_not (ha : PT X a tA) : PT X (.UnaryOp .Not a pos) (tNot tA) := by
  intro pins s σ H Q I h
  exact isTrue_not (ha pins s σ H (fun c H1 => Q (!c) H1) I h)
def tAndV (ta tb : TE) : TE := fun σ H Q => ta σ H fun x H1 => ∃ c, x = .bl c ∧ if c = true then tb σ H1 Q else Q (.bl false) H1
def tNotV (ta : TE) : TE := fun σ H Q => ta σ H fun x H1 => ∃ c, x = .bl c ∧ Q (.bl (!c)) H1
theorem pe_one {op} {t : TE} (h : PE X a t) : PE X (.BoolOp op [a] pos) t := fun pins s σ H Q I hw => BoolOp_one (h pins s σ H Q I hw)
theorem pe_and (ha : PE X a ta) (hb : PE X (.BoolOp .And (b :: rest) pos) tb) : PE X (.BoolOp .And (a :: b :: rest) pos) (tAndV ta tb) := by
  intro pins s σ H Q I h
  refine BoolOp_and (thn (ha pins s σ H _ I h) fun v s1 ⟨x, H1, I1, r1, q1⟩ => ?_)
  obtain ⟨c, rfl, q1⟩ := q1
  cases r1
  refine wpAny_truthy_bool ?_
  cases c with
  | true => exact hb pins s1 σ H1 Q I1 q1
  | false => exact ⟨.bl false, H1, I1, rfl, q1⟩
theorem pe_not (ha : PE X a ta) : PE X (.UnaryOp .Not a pos) (tNotV ta) := by
  intro pins s σ H Q I h
  refine UnaryOp_ (thn (ha pins s σ H _ I h) fun v s1 ⟨x, H1, I1, r1, q1⟩ => ?_)
  obtain ⟨c, rfl, q1⟩ := q1
  cases r1
  exact not_of (wpAny_truthy_bool ⟨.bl (!c), H1, I1, rfl, q1⟩)
def tIf (t : TT) (ta tb : TE) : TE := fun σ H Q => t σ H fun c H1 => if c = true then ta σ H1 Q else tb σ H1 Q
theorem pe_ifExp {c : Expr} (hc : PT X c tA) (ha : PE X a ta) (hb : PE X b tb) : PE X (.IfExp c a b pos) (tIf tA ta tb) := by
  intro pins s σ H Q I h
  refine wpAny_IfExp (thn (hc pins s σ H _ I h) fun d s1 ⟨H1, I1, q1⟩ => ?_)
  cases d with
  | true => exact ha pins s1 σ H1 Q I1 q1
  | false => exact hb pins s1 σ H1 Q I1 q1
end
end L2
namespace L2
open PySem PySem.Spec PyProof.Rows
def SqL (K : PySem.W.Frag) (H : Hp) (a : Addr) (xs : List V) : Prop :=
  Rd H a (.lst xs) ∨
    ∃ (o : Obj) (its : Array Value) (n : Nat), K.lookup a = some o ∧ o.cls = .type "list" ∧ o.dict = none ∧ o.data = .seq its n ∧ its.size ≤ sizeLine ∧ Vals xs its.toList
def SqT (K : PySem.W.Frag) (H : Hp) (a : Addr) (xs : List V) : Prop :=
  Rd H a (.tup xs) ∨
    ∃ (o : Obj) (its : Array Value) (n : Nat), K.lookup a = some o ∧ o.cls = .type "tuple" ∧ o.data = .seq its n ∧ its.size ≤ sizeLine ∧ Vals xs its.toList
def absV : Value → Option V
  | .none => some .non
  | .bool b => some (.bl b)
  | .int i _ => some (.int i)
  | .str x _ => some (.str x)
  | .bytes b _ => some (.byt b)
  | .float b _ => some (.flt b)
  | .ref a => some (.ref a)
  | .type n => some (.ty n)
  | _ => none
theorem RelV.abs {x : V} {u : Value} (r : RelV x u) : absV u = some x := by
  cases x with
  | non => cases r; rfl
  | bl _ => cases r; rfl
  | int _ => obtain ⟨t, rfl⟩ := r; rfl
  | str _ => obtain ⟨t, rfl⟩ := r; rfl
  | byt _ => obtain ⟨t, rfl⟩ := r; rfl
  | flt _ => obtain ⟨t, rfl⟩ := r; rfl
  | ref _ => cases r; rfl
  | ty _ => cases r; rfl
theorem RelV.inj {x y : V} {u : Value} (r : RelV x u) (q : RelV y u) : x = y := Option.some.inj (r.abs.symm.trans q.abs)
theorem Vals.inj : ∀ {xs ys : List V} {us : List Value}, Vals xs us → Vals ys us → xs = ys
  | _, _, _, .nil, .nil => rfl
  | _, _, _, .cons r t, .cons r' t' => by rw [r.inj r', Vals.inj t t']
section
variable {X : Cx} {pins : List (Addr × Obj)} {σ : St} {H : Hp} {s : Shared} {a : Addr} {xs ys : List V}
theorem SqL.of {K : PySem.W.Frag} (h : H a = some (.lst xs)) : SqL K H a xs := .inl (.inl h)
theorem SqT.of {K : PySem.W.Frag} (h : H a = some (.tup xs)) : SqT K H a xs := .inl (.inl h)
theorem Inv.list (I : Inv X pins σ H s) (h : SqL X.K H a xs) : ∃ its : List Value, Vals xs its ∧ PlainL s.heap a its.toArray ∧ xs.length ≤ sizeLine := by
  rcases h with h | ⟨o, its, n, hk, hc, hd, hs, hz, r⟩
  · obtain ⟨z, its, n, r, e⟩ := h.ok I.hok
    exact ⟨its, r, ⟨_, n, e, rfl, rfl, rfl⟩, z⟩
  · refine ⟨its.toList, r, ⟨o, n, I.kIn a o hk, hc, hd, by simpa using hs⟩, ?_⟩
    have e := r.length
    simp only [Array.length_toList] at e
    omega
theorem Inv.tuple (I : Inv X pins σ H s) (h : SqT X.K H a xs) : ∃ its : List Value, Vals xs its ∧ IsTup s.heap a its.toArray ∧ xs.length ≤ sizeLine := by
  rcases h with h | ⟨o, its, n, hk, hc, hs, hz, r⟩
  · obtain ⟨z, its, r, p⟩ := h.ok I.hok
    exact ⟨its, r, p, z⟩
  · refine ⟨its.toList, r, ⟨o, I.kIn a o hk, hc, n, by simpa using hs⟩, ?_⟩
    have e := r.length
    simp only [Array.length_toList] at e
    omega
theorem Inv.list_inj (I : Inv X pins σ H s) (h : SqL X.K H a xs) (h' : SqL X.K H a ys) : xs = ys := by
  obtain ⟨its, r, ⟨o, n, e, _, _, d⟩, _⟩ := I.list h
  obtain ⟨its', r', ⟨o', n', e', _, _, d'⟩, _⟩ := I.list h'
  rw [e] at e'; cases e'
  rw [d] at d'
  injection d' with d1 _
  have : its = its' := by simpa using congrArg Array.toList d1
  subst this
  exact r.inj r'
theorem Inv.tuple_inj (I : Inv X pins σ H s) (h : SqT X.K H a xs) (h' : SqT X.K H a ys) : xs = ys := by
  obtain ⟨its, r, ⟨o, e, _, n, d⟩, _⟩ := I.tuple h
  obtain ⟨its', r', ⟨o', e', _, n', d'⟩, _⟩ := I.tuple h'
  rw [e] at e'; cases e'
  rw [d] at d'
  injection d' with d1 _
  have : its = its' := by simpa using congrArg Array.toList d1
  subst this
  exact r.inj r'
end
abbrev Cx.wish (X : Cx) (E : Value → Shared → Prop) : Cx := { X with xe := E }
abbrev Cx.nox (X : Cx) : Cx := X.wish fun _ _ => False
theorem Cx.Ok.wish {X : Cx} (ok : X.Ok) (E : Value → Shared → Prop) : (X.wish E).Ok :=
  ⟨ok.mod, ok.kind, ok.glob, ok.blt, ok.above, ok.inj, ok.has, ok.cab, ok.hd, ok.frames, ok.stk, ok.exf, ok.bs, ok.bsz, ok.noex, ok.exfs, ok.funs, ok.frf⟩
theorem Cx.Ok.unwish {X : Cx} {E : Value → Shared → Prop} (ok : (X.wish E).Ok) : X.Ok :=
  ⟨ok.mod, ok.kind, ok.glob, ok.blt, ok.above, ok.inj, ok.has, ok.cab, ok.hd, ok.frames, ok.stk, ok.exf, ok.bs, ok.bsz, ok.noex, ok.exfs, ok.funs, ok.frf⟩
section
variable {X : Cx} {pins : List (Addr × Obj)} {σ : St} {H : Hp} {s : Shared} {E : Value → Shared → Prop}
theorem Inv.wish (I : Inv X pins σ H s) (E : Value → Shared → Prop) : Inv (X.wish E) pins σ H s := ⟨I.ok.wish E, I.os, I.bare, I.base, I.loc, I.cell, I.free, I.freeC, I.pin, I.hok, I.len⟩
theorem Inv.unwish (I : Inv (X.wish E) pins σ H s) : Inv X pins σ H s := ⟨I.ok.unwish, I.os, I.bare, I.base, I.loc, I.cell, I.free, I.freeC, I.pin, I.hok, I.len⟩
theorem SP.unwish {D : Ends} {f : Flow} {s' : Shared} (h : SP (X.wish E) pins D f s') : SP X pins D f s' := by
  cases f with
  | next => obtain ⟨σ', H', I, q⟩ := h; exact ⟨σ', H', I.unwish, q⟩
  | brk => obtain ⟨σ', H', I, q⟩ := h; exact ⟨σ', H', I.unwish, q⟩
  | cont => obtain ⟨σ', H', I, q⟩ := h; exact ⟨σ', H', I.unwish, q⟩
  | ret u => obtain ⟨v, σ', H', I, r, q⟩ := h; exact ⟨v, σ', H', I.unwish, r, q⟩
theorem PSs.nox {st : List Stmt} {t : TS} (h : PSs X.nox st t) : PSs X st t := fun pins s σ H D I hw =>
  wpAny_mono (h pins s σ H D (I.wish _) hw) (fun _ _ q => q.unwish) fun _ _ z => False.elim z
end
section
variable {X : Cx} {st : Stmt} {rest : List Stmt} {t u : TS} {e : Expr} {te : TE} {pos : Pos}
def tNext : TS := fun D σ H => D.nx σ H
def tSeq (t u : TS) : TS := fun D σ H => t { D with nx := u D } σ H
theorem pss_nil : PSs X [] tNext := fun _ _ σ H _ I h => wpAny_execs_nil ⟨σ, H, I, h⟩
theorem pss_cons (h1 : PS X st t) (h2 : PSs X rest u) : PSs X (st :: rest) (tSeq t u) := by
  intro pins s σ H D I h
  refine wpAny_execs_cons (thn (h1 pins s σ H { D with nx := u D } I h) fun f s1 q => ?_)
  cases f with
  | next =>
    obtain ⟨σ', H', I', q⟩ := q
    exact h2 pins s1 σ' H' D I' q
  | ret v => exact q
  | brk => exact q
  | cont => exact q
theorem pss_one (h1 : PS X st t) : PSs X [st] t := by
  intro pins s σ H D I h
  refine wpAny_execs_cons (thn (h1 pins s σ H D I h) fun f s1 q => ?_)
  cases f with
  | next => exact wpAny_execs_nil q
  | ret v => exact q
  | brk => exact q
  | cont => exact q
theorem Inv.quiet {pins : List (Addr × Obj)} {σ : St} {H : Hp} {s : Shared} (I : Inv X pins σ H s) : interactive X.env = false := by simp [interactive, I.ok.kind]
def tDrop (te : TE) : TS := fun D σ H => te σ H fun _ H1 => D.nx σ H1
theorem ps_expr (he : PE X e te) (hs : swapsWith e none pos.line X.env = pure false := by rfl) : PS X (.Expr e pos) (tDrop te) := by
  intro pins s σ H D I h
  exact wpAny_Expr_any (thn (he pins s σ H _ I h) fun v s1 ⟨x, H1, I1, r1, q1⟩ => ⟨σ, H1, I1, q1⟩) I.quiet hs
def tRet (te : TE) : TS := fun D σ H => te σ H D.rt
theorem ps_ret (he : PE X e te) : PS X (.Return (some e) pos) (tRet te) := by
  intro pins s σ H D I h
  exact wpAny_Return_some (thn (he pins s σ H _ I h) fun v s1 ⟨x, H1, I1, r1, q1⟩ => ⟨x, σ, H1, I1, r1, q1⟩)
def tIfS (c : TT) (t u : TS) : TS := fun D σ H => c σ H fun b H1 => if b = true then t D σ H1 else u D σ H1
theorem ps_if {c : Expr} {a b : List Stmt} {tc : TT} (hc : PT X c tc) (ha : PSs X a t) (hb : PSs X b u) : PS X (.If c a b pos) (tIfS tc t u) := by
  intro pins s σ H D I h
  refine wpAny_If (thn (hc pins s σ H _ I h) fun d s1 ⟨H1, I1, q1⟩ => ?_)
  cases d with
  | true => exact ha pins s1 σ H1 D I1 q1
  | false => exact hb pins s1 σ H1 D I1 q1
def tNever : TS := fun _ _ _ => False
theorem pss_never {sts : List Stmt} : PSs X sts tNever := fun _ _ _ _ _ _ h => h.elim
end
abbrev TG := V → St → Hp → (St → Hp → Prop) → Prop
abbrev TGs := List V → St → Hp → (St → Hp → Prop) → Prop
def PG (X : Cx) (target : Expr) (t : TG) : Prop :=
  ∀ (pins : List (Addr × Obj)) (s : Shared) (σ : St) (H : Hp) (v : V) (u : Value) (Q : St → Hp → Prop), Inv X pins σ H s → RelV v u → t v σ H Q →
    wpAny (model X.prog X.w) X.A (assign target X.env u) (fun _ s' => ∃ σ' H', Inv X pins σ' H' s' ∧ Q σ' H') X.xe s
def PGs (X : Cx) (ts : List Expr) (t : TGs) : Prop :=
  ∀ (pins : List (Addr × Obj)) (s : Shared) (σ : St) (H : Hp) (vs : List V) (us : List Value) (Q : St → Hp → Prop), Inv X pins σ H s → Vals vs us → t vs σ H Q →
    wpAny (model X.prog X.w) X.A (assignInOrder ((assignEach ts X.env).map (·.2)) us) (fun _ s' => ∃ σ' H', Inv X pins σ' H' s' ∧ Q σ' H') X.xe s
abbrev TSet := V → V → V → Hp → (Hp → Prop) → Prop
def PSet (X : Cx) (t : TSet) : Prop :=
  ∀ (pins : List (Addr × Obj)) (s : Shared) (σ : St) (H : Hp) (o i v : V) (ov iv u : Value) (Q : Hp → Prop), Inv X pins σ H s → RelV o ov → RelV i iv → RelV v u → t o i v H Q →
    wpAny (model X.prog X.w) X.A (setItem ov iv u) (fun _ s' => ∃ H', Inv X pins σ H' s' ∧ Q H') X.xe s
section
variable {X : Cx} {pos : Pos}
def gName (i : Nat) : TG := fun v σ H Q => Q (σ.set i (some v)) H
theorem pg_name {i : Nat} {x : Str} (hN : X.N.Nodup) (hi : X.N[i]? = some x) (hx : Loc X.env.scope x) (hf : X.fn x = true ∨ X.env.scope.names.lookup x = some .local := by first | exact .inl rfl | exact .inr rfl | assumption) : PG X (.Name x pos) (gName i) := by
  intro pins s σ H v u Q I r h
  exact wpAny_assign_Name (store_ok I hN hi hx r (fun s' I' => ⟨_, H, I', h⟩) hf)
def gNil : TGs := fun vs σ H Q => vs = [] ∧ Q σ H
def gCons (t : TG) (u : TGs) : TGs := fun vs σ H Q => ∃ v r, vs = v :: r ∧ t v σ H fun σ' H' => u r σ' H' Q
theorem pgs_nil : PGs X [] gNil := by
  intro pins s σ H vs us Q I r h
  obtain ⟨e, h⟩ := h
  subst e
  cases r
  exact assignInOrder_nil ⟨σ, H, I, h⟩
theorem pgs_cons {e : Expr} {es : List Expr} {t : TG} {u : TGs} (h1 : PG X e t) (h2 : PGs X es u)
    (hs : (assignEach (e :: es) X.env).map (·.2) = assign e X.env :: (assignEach es X.env).map (·.2) := by rfl) : PGs X (e :: es) (gCons t u) := by
  intro pins s σ H vs us Q I r h
  obtain ⟨v, vr, e1, h⟩ := h
  subst e1
  cases r with
  | cons r rr =>
    rw [hs]
    refine assignInOrder_cons (thn (h1 pins s σ H _ _ _ I r h) fun _ s1 ⟨σ1, H1, I1, q1⟩ => ?_)
    exact h2 pins s1 σ1 H1 _ _ Q I1 rr q1
def gTup (K : PySem.W.Frag) (n : Nat) (t : TGs) : TG := fun v σ H Q => ∃ a xs, v = .ref a ∧ SqT K H a xs ∧ xs.length = n ∧ t xs σ H Q
theorem pg_tup {es : List Expr} {k : Nat} {t : TGs} {n : Nat} (hc : X.calm = true) (h : PGs X es t)
    (hn : (assignEach es X.env).length = n := by rfl) (hst : (assignEach es X.env).findIdx? (·.1) = none := by rfl) : PG X (.Tuple es k pos) (gTup X.K n t) := by
  intro pins s σ H v u Q I r hw
  obtain ⟨a, xs, e1, hq, hl, hw⟩ := hw
  subst e1
  cases r
  obtain ⟨its, rv, ht, hz⟩ := I.tuple hq
  refine assign_Tuple_tuple (I.ok.hd hc) ht (by simp [hn, ← hl, rv.length]) hst fun h' hx => ?_
  have I1 : Inv X pins σ H { s with heap := h' } := I.kept (t' := s.toks) fun b o e => hx b o (Nat.ne_of_lt (Heap.lt_size e)) e
  exact h pins _ σ H xs _ Q I1 (by simpa using rv) hw
def gSub (to ti : TE) (t : TSet) : TG := fun v σ H Q => to σ H fun o H1 => ti σ H1 fun i H2 => t o i v H2 fun H3 => Q σ H3
theorem pg_sub {o i : Expr} {to ti : TE} {t : TSet} (ho : PE X o to) (hi : PE X i ti) (hs : PSet X t)
    (ha : ∀ v, assign (.Subscript o i pos) X.env v = (do
      let ov ← holding [v] (eval o X.env)
      let iv ← holding [v, ov] (eval i X.env)
      standAt pos
      holding [v, ov, iv] (setItem ov iv v)
      release [v, ov, iv] []) := by intro _; rfl) : PG X (.Subscript o i pos) (gSub to ti t) := by
  intro pins s σ H v u Q I r h
  rw [ha]
  refine wpAny_bind (wpAny_holding (thn (ho pins s σ H _ I h) fun ov s1 ⟨x, H1, I1, r1, q1⟩ => ?_))
  refine wpAny_bind (wpAny_holding (thn (hi pins s1 σ H1 _ I1 q1) fun iv s2 ⟨y, H2, I2, r2, q2⟩ => ?_))
  refine wpAny_bind (wpAny_standAt (wpAny_bind (wpAny_holding (thn (hs pins s2 σ H2 x y v ov iv u _ I2 r1 r2 r q2) fun _ s3 ⟨H3, I3, q3⟩ => ?_))))
  exact wpAny_release ⟨σ, H3, I3, q3⟩
def tAsg (te : TE) (g : TG) : TS := fun D σ H => te σ H fun x H1 => g x σ H1 D.nx
theorem ps_asg {tg e : Expr} {te : TE} {g : TG} (he : PE X e te) (hg : PG X tg g) (hs : swapsWithSole [tg] e pos.line X.env = pure false := by rfl) (hw : swappedStores [tg] e X.env = pure none := by rfl)
    (h1 : (assignEach [tg] X.env).map (·.2) = [assign tg X.env] := by rfl) : PS X (.Assign [tg] e pos) (tAsg te g) := by
  intro pins s σ H D I h
  refine wpAny_Assign_stores (thn (he pins s σ H _ I h) fun v s1 ⟨x, H1, I1, r1, q1⟩ => ?_) hs hw
  rw [h1]
  exact thn (hg pins s1 σ H1 x v _ I1 r1 q1) fun _ s2 q => q
theorem ps_set {i : Nat} {x : Str} {e : Expr} {te : TE} {pos' : Pos} (hN : X.N.Nodup) (hi : X.N[i]? = some x) (hx : Loc X.env.scope x) (he : PE X e te) (hs : swapsWith e (some (.Name x pos')) pos.line X.env = pure false := by rfl) (hf : X.fn x = true ∨ X.env.scope.names.lookup x = some .local := by first | exact .inl rfl | exact .inr rfl | assumption) :
    PS X (.Assign [.Name x pos'] e pos) (tAsg te (gName i)) := by
  intro pins s σ H D I h
  refine wpAny_Assign_Name (thn (he pins s σ H _ I h) fun v s1 ⟨y, H1, I1, r1, q1⟩ => ?_) hs
  exact store_ok I1 hN hi hx r1 (fun s2 I2 => ⟨_, H1, I2, q1⟩) hf
def tPar (i j : Nat) (ta : TA) : TS := fun D σ H => ta σ H fun vs H1 => ∃ v w, vs = [v, w] ∧ D.nx ((σ.set i (some v)).set j (some w)) H1
theorem ps_par {i j : Nat} {x y : Str} {a b : Expr} {ta : TA} {px py pt : Pos} {kt k2 pt2} (hc : X.calm = true) (hN : X.N.Nodup) (hi : X.N[i]? = some x) (hj : X.N[j]? = some y) (hij : i ≠ j)
    (hx : X.env.scope.names.lookup x = some .local) (hy : X.env.scope.names.lookup y = some .local) (ha : PA X [a, b] ta)
    (hw : swappedStores [.Tuple [.Name x px, .Name y py] kt pt] (.Tuple [a, b] k2 pt2) X.env = pure (some [x, y]))
    (hs : swapsWithSole [.Tuple [.Name x px, .Name y py] kt pt] (.Tuple [a, b] k2 pt2) pos.line X.env = pure false := by rfl) :
    PS X (.Assign [.Tuple [.Name x px, .Name y py] kt pt] (.Tuple [a, b] k2 pt2) pos) (tPar i j ta) := by
  intro pins s σ H D I h
  rw [exec_Assign_arm]
  refine wpAny_bind (wpAny_standAt ?_)
  rw [hs]
  refine wpAny_bind (wpAny_pure ?_)
  rw [if_neg (by decide)]
  refine wpAny_bind (Tuple_ (thn (ha _ pins s σ H _ I h) fun us s1 ⟨vs, H1, I1, r1, q1⟩ => ?_))
  obtain ⟨v, w, e1, q1⟩ := q1
  subst e1
  obtain ⟨u1, u2, rfl, rv, rw'⟩ : ∃ u1 u2, us = [u1, u2] ∧ RelV v u1 ∧ RelV w u2 := by
    cases r1 with
    | cons p q =>
      cases q with
      | cons p' q' =>
        cases q'
        exact ⟨_, _, rfl, p, p'⟩
  refine wpAny_newObj_type ?_ (by show 2 ≤ sizeLine; decide)
  have I2 : Inv X pins σ H1 { s1 with heap := s1.heap.push { cls := .type "tuple", data := .seq [u1, u2].toArray } } := I1.kept (t' := s1.toks) fun b o e => Heap.get?_push_of_some _ e
  rw [hw]
  refine wpAny_bind (wpAny_pure ?_)
  show wpAny (model X.prog X.w) X.A (do rule "assign.swapped-stores"; let items ← unpackItems (.ref s1.heap.objs.size) 2 none; assignInOrder [fun v => bindName X.env y v, fun v => bindName X.env x v] items.reverse; pure Flow.next) _ _ _
  refine wpAny_bind (wpAny_rule (wpAny_bind (unpackItems_tuple (items := #[u1, u2]) (I.ok.hd hc) (IsTup.new s1.heap _) fun h' hx' => ?_)))
  have I3 := I2.kept (h' := h') (t' := s1.toks) fun b o e => hx' b o (Nat.ne_of_lt (Heap.lt_size e)) e
  show wpAny _ _ (assignInOrder [fun v => bindName X.env y v, fun v => bindName X.env x v] [u2, u1] >>= fun _ => pure Flow.next) _ _ _
  refine wpAny_bind (assignInOrder_cons (wpAny_bindName (store_ok I3 hN hj (.inl hy) rw' (fun s2 I4 => ?_) (.inr hy))))
  refine assignInOrder_cons (wpAny_bindName (store_ok I4 hN hi (.inl hx) rv (fun s3 I5 => assignInOrder_nil (wpAny_pure ?_)) (.inr hx)))
  rw [List.set_comm _ _ (Ne.symm hij)] at I5
  exact ⟨_, H1, I5, q1⟩
end
section
variable {X : Cx} {pos : Pos}
def tWhile (c : TT) (tb : TS) : TS := fun D σ H => ∃ W : Nat → St → Hp → Prop, (∃ m, W m σ H) ∧ ∀ m σ H, W m σ H →
  c σ H fun b H1 => if b = true then ∃ N : St → Hp → Prop, (∀ σ' H', N σ' H' → ∃ m', m' < m ∧ W m' σ' H') ∧ tb { D with nx := N, ct := N, bk := D.nx } σ H1 else D.nx σ H1
theorem ps_while {c : Expr} {body : List Stmt} {tc : TT} {tb : TS} (hp : PassesOwn (model X.prog X.w) X.A X.env X.xe) (hc : PT X c tc) (hb : PSs X body tb) : PS X (.While c body [] pos) (tWhile tc tb) := by
  intro pins s σ H D I h
  obtain ⟨W, ⟨m0, w0⟩, turn⟩ := h
  refine wpAny_While (codeAny_whileLoop (fun n s' => ∃ σ' H', Inv X pins σ' H' s' ∧ W n σ' H') ?_ m0 ⟨σ, H, I, w0⟩)
  rintro n s1 ⟨σ1, H1, I1, w1⟩
  refine wpAny_passesOwn hp (thn (hc pins s1 σ1 H1 _ I1 (turn n σ1 H1 w1)) fun b s2 ⟨H2, I2, q2⟩ => ?_)
  cases b with
  | true =>
    obtain ⟨N, hN, q2⟩ := q2
    rw [if_pos rfl]
    refine wpAny_passesOwn hp (thn (hb pins s2 σ1 H2 _ I2 q2) fun f s3 q3 => ?_)
    cases f with
    | next =>
      obtain ⟨σ3, H3, I3, n3⟩ := q3
      obtain ⟨m', hm, w3⟩ := hN σ3 H3 n3
      exact ⟨m', hm, σ3, H3, I3, w3⟩
    | cont =>
      obtain ⟨σ3, H3, I3, n3⟩ := q3
      obtain ⟨m', hm, w3⟩ := hN σ3 H3 n3
      exact ⟨m', hm, σ3, H3, I3, w3⟩
    | brk => exact q3
    | ret v => exact q3
  | false =>
    rw [if_neg Bool.false_ne_true]
    exact wpAny_execs_nil ⟨σ1, H2, I2, q2⟩
end
structure It where
  go : Nat → Hp → Prop
  yld : Nat → Hp → V → Hp → Prop
  stop : Nat → Hp → Prop
def FpOk (X : Cx) (pins : List (Addr × Obj)) (H : Hp) (b : Addr) : Prop :=
  H b = none ∧ b ≠ X.env.locals ∧ b ∉ X.fs ∧ (b ∈ X.ex ∨ X.s₀.heap.objs.size ≤ b) ∧ (∀ x c, X.env.cells.lookup x = some c → c ≠ b) ∧ ∀ p ∈ X.pn ++ pins, p.1 ≠ b
theorem Inv.fpOk {X : Cx} {pins : List (Addr × Obj)} {σ : St} {H H' : Hp} {s : Shared} {b : Addr} (I : Inv X pins σ H s) (hb : s.heap.objs.size ≤ b) (hn : H' b = none) : FpOk X pins H' b := by
  refine ⟨hn, Nat.ne_of_gt (Nat.lt_of_lt_of_le I.lt hb), I.nofs hb, .inr (Nat.le_trans I.sz hb), fun x c e z => ?_, fun p hp z => ?_⟩
  · obtain ⟨v, q⟩ := I.cell x c e
    exact absurd (Nat.lt_of_lt_of_le q.lt (by rw [z]; exact hb)) (Nat.lt_irrefl _)
  · exact absurd (Nat.lt_of_lt_of_le (Heap.lt_size (I.pin p hp).1) (by rw [z]; exact hb)) (Nat.lt_irrefl _)
structure Turn (P : Program) (w : World) (K : PySem.W.Frag) (tg : Expr) (J : It) (fp : List Addr) (it : Addr) (tn : Nat → Heap → Prop) : Prop where
  mem : it ∈ fp
  obj : ∀ i h, tn i h → ∀ b ∈ fp, ∃ o, h.get? b = some o ∧ ∀ v, o.data ≠ .cell v
  keep : ∀ i h h', tn i h → (∀ b ∈ fp, ∀ o, h.get? b = some o → h'.get? b = some o) → tn i h'
  item : ∀ (X : Cx), X.prog = P → X.w = w → X.K = K → X.calm = true → ∀ (i : Nat) (pins : List (Addr × Obj)) (s : Shared) (σ : St) (H : Hp) (E : Value → Shared → Prop), Inv X pins σ H s → (∀ b ∈ fp, FpOk X pins H b) → tn i s.heap → J.go i H →
    wpAny (model P w) X.A (pyNext (.ref it)) (fun r s1 => ∃ u, r = some u ∧
      wpAny (model P w) X.A (letOwnedTupleGo tg (.ref it) u) (fun _ s2 => ∃ x H', Inv X pins σ H' s2 ∧ RelV x u ∧ J.yld i H x H' ∧ tn (i + 1) s2.heap ∧ ∀ b ∈ fp, H' b = none) E s1) E s
  done : ∀ (X : Cx), X.prog = P → X.w = w → X.K = K → X.calm = true → ∀ (i : Nat) (pins : List (Addr × Obj)) (s : Shared) (σ : St) (H : Hp) (E : Value → Shared → Prop), Inv X pins σ H s → (∀ b ∈ fp, FpOk X pins H b) → tn i s.heap → J.stop i H →
    wpAny (model P w) X.A (pyNext (.ref it)) (fun r s1 => r = none ∧ Inv X pins σ H s1) E s
  self : ∀ (A : Around) (i : Nat) (s : Shared) (Q : Value → Shared → Prop) (E : Value → Shared → Prop), tn i s.heap → Q (.ref it) s → wpAny (model P w) A (pyIter (.ref it)) Q E s
abbrev TI := St → Hp → (It → Hp → Prop) → Prop
def PIE (X : Cx) (pins : List (Addr × Obj)) (σ : St) (tg : Expr) (R : It → Hp → Prop) (itv : Value) (s2 : Shared) : Prop :=
  ∃ (it : Addr) (fp : List Addr) (tn : Nat → Heap → Prop) (J : It) (H' : Hp), itv = .ref it ∧ Inv X pins σ H' s2 ∧ Turn X.prog X.w X.K tg J fp it tn ∧ tn 0 s2.heap ∧ (∀ b ∈ fp, FpOk X pins H' b) ∧ R J H'
def PI (X : Cx) (tg iter : Expr) (wi : TI) : Prop :=
  ∀ (pins : List (Addr × Obj)) (s : Shared) (σ : St) (H : Hp) (R : It → Hp → Prop), Inv X pins σ H s → wi σ H R →
    wpAny (model X.prog X.w) X.A (eval iter X.env) (fun v s1 => wpAny (model X.prog X.w) X.A (pyIter v) (PIE X pins σ tg R) X.xe s1) X.xe s
theorem go_of {M : Model} {A : Around} {E : Value → Shared → Prop} {s : Shared} {tg : Expr} {it : Addr} {u : Value} {o : Obj} {n : String} {vs : Array Value} {Q : Unit → Shared → Prop} (ho : s.heap.get? it = some o) (hc : o.cls = .type n) (hd : o.data = .fields vs)
    (hn : ["enumerate", "zip", "dict_itemiterator", "dict_reverseitemiterator", "odict_iterator", "itertools.zip_longest", "itertools.pairwise"].contains n = false) (hQ : Q () s) : wpAny M A (letOwnedTupleGo tg (.ref it) u) Q E s := by
  unfold letOwnedTupleGo
  cases tg <;> first
    | exact wpAny_pure hQ
    | (cases u <;> first
        | exact wpAny_pure hQ
        | (refine wpAny_bind (wpAny_load ho ?_)
           rw [hc, hd]
           show wpAny M A (if (["enumerate", "zip", "dict_itemiterator", "dict_reverseitemiterator", "odict_iterator", "itertools.zip_longest", "itertools.pairwise"].contains n && vs[0]? == some (rawInt _)) = true then _ else _) Q E s
           rw [if_neg (by intro h; rw [hn, Bool.false_and] at h; cases h)]
           exact wpAny_pure hQ))
def Itl (K : PySem.W.Frag) (a : Addr) : It :=
  ⟨fun i H => ∃ xs x, SqL K H a xs ∧ xs[i]? = some x, fun i H x H' => H' = H ∧ ∀ xs, SqL K H a xs → xs[i]? = some x, fun i H => ∃ xs, SqL K H a xs ∧ xs.length ≤ i⟩
def Itr (lo : Int) (n : Nat) : It := ⟨fun i _ => i < n, fun i H x H' => H' = H ∧ x = .int (lo + i), fun i _ => n ≤ i⟩
theorem turn_list {P : Program} {w : World} {K : PySem.W.Frag} {tg : Expr} (a it : Addr) : Turn P w K tg (Itl K a) [it] it (fun i h => h.IsListIter it a i) where
  mem := by simp
  obj := fun i h st b hb => by
    have e : b = it := by simpa using hb
    subst e
    obtain ⟨o, e, c, d⟩ := st
    exact ⟨o, e, fun v z => by rw [d] at z; cases z⟩
  keep := fun i h h' st k => st.at fun o e => k it (by simp) o e
  item := by
    intro X hP hw hK hc i pins s σ H E I hf st hg
    subst hP hw hK
    obtain ⟨xs, x, hq, hx⟩ := hg
    obtain ⟨its, rv, p, hz⟩ := I.list hq
    obtain ⟨u, hu, ru⟩ := rv.get hx
    obtain ⟨f0, f1, f2, f3, f4, f5⟩ := hf it (by simp)
    refine wpAny_pyNext_list_item st p.isList (x := u) (by simpa using hu) fun h' st' sb => ?_
    have I1 : Inv X pins σ H { s with heap := h' } := I.turned (t' := s.toks) (fun b o hb e => (sb.2 b hb).trans e) f0 f1 f3 f4 f5
    obtain ⟨o, e, c, d⟩ := id st'
    exact ⟨u, rfl, go_of (s := { s with heap := h' }) e c d (by decide) ⟨x, H, I1, ru, ⟨rfl, fun ys hy => by rw [I.list_inj hy hq]; exact hx⟩, st', fun b hb => (hf b hb).1⟩⟩
  done := by
    intro X hP hw hK hc i pins s σ H E I hf st hg
    subst hP hw hK
    obtain ⟨xs, hq, hx⟩ := hg
    obtain ⟨its, rv, p, hz⟩ := I.list hq
    obtain ⟨f0, f1, f2, f3, f4, f5⟩ := hf it (by simp)
    have hl := rv.length
    exact wpAny_pyNext_list_end (I.ok.hd hc) st p.isList (by simp; omega) fun h' eb => ⟨rfl, I.turned (t' := s.toks) (fun b o hb e => eb b o hb e) f0 f1 f3 f4 f5⟩
  self := fun _ _ _ _ _ st h => wpAny_pyIter_listiter st h
theorem turn_range {P : Program} {w : World} {K : PySem.W.Frag} {tg : Expr} (it : Addr) (lo : Int) (n : Nat) : Turn P w K tg (Itr lo n) [it] it (fun i h => IsRangeIter h it (lo + (i : Nat) * 1) ((n : Int) - (i : Nat)) 1) where
  mem := by simp
  obj := fun i h st b hb => by
    have e : b = it := by simpa using hb
    subst e
    exact ⟨_, st, fun v z => by
      have z' : Data.fields _ = Data.cell v := z
      cases z'⟩
  keep := fun i h h' st k => k it (by simp) _ st
  item := by
    intro X hP hw hK hc i pins s σ H E I hf st hg
    subst hP hw hK
    obtain ⟨f0, f1, f2, f3, f4, f5⟩ := hf it (by simp)
    have W := Walks.range (prog := X.prog) (w := X.w) (I.ok.hd hc) it lo 1 n
    refine W.item i s _ _ hg st fun v h' tk hv st' kk => ?_
    obtain ⟨t, rfl⟩ := hv
    have I1 : Inv X pins σ H { s with heap := h', toks := tk } := I.turned (fun b o hb e => kk b o (by simpa using hb) e) f0 f1 f3 f4 f5
    refine ⟨_, rfl, go_of (s := { s with heap := h', toks := tk }) (n := "range_iterator") st' rfl rfl (by decide) ⟨.int (lo + i), H, I1, ⟨t, ?_⟩, ⟨rfl, rfl⟩, st', fun b hb => (hf b hb).1⟩⟩
    rw [Int.mul_one]
  done := by
    intro X hP hw hK hc i pins s σ H E I hf st hg
    subst hP hw hK
    obtain ⟨f0, f1, f2, f3, f4, f5⟩ := hf it (by simp)
    exact wpAny_pyNext_range_end (I.ok.hd hc) st (by have : n ≤ i := hg; omega) fun h' eb => ⟨rfl, I.turned (t' := s.toks) (fun b o hb e => eb b o hb e) f0 f1 f3 f4 f5⟩
  self := fun _ _ _ _ _ st h => wpAny_pyIter_rangeiter st h
end L2
namespace L2
open PySem PySem.Spec PyProof.Rows
section
variable {X : Cx} {tg : Expr}
def iList (K : PySem.W.Frag) (tl : TE) : TI := fun σ H R => tl σ H fun x H1 => ∃ a, x = .ref a ∧ (∃ xs, SqL K H1 a xs) ∧ R (Itl K a) H1
theorem pi_list {l : Expr} {tl : TE} (hl : PE X l tl) : PI X tg l (iList X.K tl) := by
  intro pins s σ H R I h
  refine thn (hl pins s σ H _ I h) fun v s1 ⟨x, H1, I1, r1, q1⟩ => ?_
  obtain ⟨a, e, ⟨xs, hq⟩, q⟩ := q1
  subst e
  cases r1
  obtain ⟨its, rv, p, hz⟩ := I1.list hq
  refine wpAny_pyIter_list p.isList ?_
  refine ⟨s1.heap.objs.size, [s1.heap.objs.size], _, _, H1, rfl, I1.kept (t' := s1.toks) fun b o e => Heap.get?_push_of_some _ e, turn_list a _, ⟨_, Heap.get?_push_size _ rfl, rfl, rfl⟩, fun b hb => ?_, q⟩
  have e : b = s1.heap.objs.size := by simpa using hb
  subst e
  exact I1.fpOk (Nat.le_refl _) (I1.hok.fresh (Nat.le_refl _))
theorem range_it {pins : List (Addr × Obj)} {σ : St} {H : Hp} {s : Shared} {R : It → Hp → Prop} {E : Value → Shared → Prop} {lo hi : Int} {t u v : Tok} {tk : Nat} (I : Inv X pins σ H s) (h1 : -(2 ^ 62) ≤ lo) (h2 : lo < 2 ^ 62) (h3 : -(2 ^ 62) ≤ hi) (h4 : hi < 2 ^ 62)
    (q : R (Itr lo (hi - lo).toNat) H) : wpAny (model X.prog X.w) X.A (pyIter (.ref s.heap.objs.size)) (PIE X pins σ tg R) E { s with heap := s.heap.push { cls := .type "range", data := .fields #[.int lo t, .int hi u, .int 1 v] }, toks := tk } := by
  refine wpAny_pyIter_range (IsRange.new ..) (small_one h1 h2 h3 h4) ?_
  have I1 : Inv X pins σ H { s with heap := s.heap.push { cls := .type "range", data := .fields #[.int lo t, .int hi u, .int 1 v] }, toks := tk } := I.kept fun b o e => Heap.get?_push_of_some _ e
  refine ⟨(s.heap.push { cls := .type "range", data := .fields #[.int lo t, .int hi u, .int 1 v] }).objs.size, [(s.heap.push { cls := .type "range", data := .fields #[.int lo t, .int hi u, .int 1 v] }).objs.size], _, _, H, rfl,
    I1.kept (t' := tk) fun b o e => Heap.get?_push_of_some _ e, turn_range _ lo (hi - lo).toNat, ?_, fun b hb => ?_, q⟩
  · have e1 : lo + ((0 : Nat) : Int) * 1 = lo := by simp
    have e2 : (((hi - lo).toNat : Nat) : Int) - ((0 : Nat) : Int) = Builtin.Range.rangeSize lo hi 1 := by rw [rangeSize_one]; split <;> omega
    show IsRangeIter _ _ (lo + ((0 : Nat) : Int) * 1) ((((hi - lo).toNat : Nat) : Int) - ((0 : Nat) : Int)) 1
    rw [e1, e2]
    exact Heap.get?_push_size _ rfl
  · have e : b = (s.heap.push { cls := .type "range", data := .fields #[.int lo t, .int hi u, .int 1 v] }).objs.size := by simpa using hb
    subst e
    exact I1.fpOk (Nat.le_refl _) (I1.hok.fresh (Nat.le_refl _))
def iRng1 (ta : TA) : TI := fun σ H R => ta σ H fun vs H1 => ∃ j : Int, vs = [.int j] ∧ -(2 ^ 62) ≤ j ∧ j < 2 ^ 62 ∧ R (Itr 0 j.toNat) H1
theorem pi_range1 {a : Expr} {ta : TA} {p pos : Pos} (hg : Gl X "range") (hm : X.mg "range" = none) (ha : PA X [a] ta) (hs : starEach [a] X.env = [(false, eval a X.env)] := by rfl) : PI X tg (.Call (.Name "range" p) [a] [] pos) (iRng1 ta) := by
  intro pins s σ H R I h
  refine Call_ (ld_blt I hg hm boot_range (PyProof.Rows.callWith_type1 (thn (ha pos pins s σ H _ I h) fun us s1 ⟨vs, H1, I1, r1, q1⟩ => ?_) hs rfl))
  obtain ⟨j, e, q1, q2, q⟩ := q1
  subst e
  cases r1 with
  | cons r rr =>
    cases rr
    obtain ⟨t, rfl⟩ := r
    exact call_range_1 (range_it I1 (by omega) (by omega) q1 q2 (by simpa using q))
def tFor (wi : TI) (g : TG) (tb : TS) : TS := fun D σ H => wi σ H fun J H1 => ∃ W : Nat → Nat → St → Hp → Prop, (∃ m, W 0 m σ H1) ∧ ∀ i m σ H, W i m σ H →
  (J.stop i H ∧ D.nx σ H) ∨ (J.go i H ∧ ∃ N : St → Hp → Prop, (∀ σ' H', N σ' H' → ∃ m', m' < m ∧ W (i + 1) m' σ' H') ∧ ∀ x H', J.yld i H x H' → g x σ H' fun σ2 H2 => tb { D with nx := N, ct := N, bk := D.nx } σ2 H2)
def pinsAt (fp : List Addr) (h : Heap) : List (Addr × Obj) := fp.filterMap fun b => (h.get? b).map fun o => (b, o)
theorem mem_pinsAt {fp : List Addr} {h : Heap} {b : Addr} {o : Obj} (hb : b ∈ fp) (e : h.get? b = some o) : (b, o) ∈ pinsAt fp h := List.mem_filterMap.mpr ⟨b, hb, by rw [e]; rfl⟩
theorem of_pinsAt {fp : List Addr} {h : Heap} {p : Addr × Obj} (hp : p ∈ pinsAt fp h) : p.1 ∈ fp ∧ h.get? p.1 = some p.2 := by
  obtain ⟨b, hb, e⟩ := List.mem_filterMap.mp hp
  cases q : h.get? b with
  | none => rw [q] at e; cases e
  | some o =>
    rw [q] at e
    have e' : (b, o) = p := Option.some.inj e
    subst e'
    exact ⟨hb, q⟩
theorem Inv.pinned {pins : List (Addr × Obj)} {σ : St} {H : Hp} {s : Shared} {fp : List Addr} (I : Inv X pins σ H s) (hf : ∀ b ∈ fp, FpOk X pins H b) (ho : ∀ b ∈ fp, ∃ o, s.heap.get? b = some o ∧ ∀ v, o.data ≠ .cell v) : Inv X (pins ++ pinsAt fp s.heap) σ H s :=
  I.pins_of fun p hp => (List.mem_append.mp hp).elim (fun z => I.pin p (List.mem_append_right _ z)) fun z => by
    obtain ⟨hb, e⟩ := of_pinsAt z
    obtain ⟨f0, f1, f2, _⟩ := hf p.1 hb
    obtain ⟨o, e', d⟩ := ho p.1 hb
    rw [e] at e'; cases e'
    exact ⟨e, f0, f1, f2, d⟩
theorem Inv.unpinned {pins pl : List (Addr × Obj)} {σ : St} {H : Hp} {s : Shared} (I : Inv X (pins ++ pl) σ H s) : Inv X pins σ H s := I.pins_of fun p hp => I.pin p (List.mem_append_right _ (List.mem_append_left _ hp))
theorem ps_for {iter : Expr} {body : List Stmt} {wi : TI} {g : TG} {tb : TS} {pos : Pos} (hp : PassesOwn (model X.prog X.w) X.A X.env X.xe) (hc : X.calm = true) (hi : PI X tg iter wi) (hg : PG X tg g) (hb : PSs X body tb)
    (hs : ∀ x, foldedSetIterable iter X.env x = pure x := by intro _; rfl) : PS X (.For tg iter body [] pos) (tFor wi g tb) := by
  intro pins s σ H D I h
  refine wpAny_For (thn (hi pins s σ H _ I h) fun v s1 h1 => thn h1 fun itv s2 h2 => ?_) hs
  obtain ⟨it, fp, tn, J, H2, e, I2, T, st2, f2, W, ⟨m0, w0⟩, turn⟩ := h2
  subst e
  have stat : ∀ {H' : Hp}, (∀ b ∈ fp, H' b = none) → ∀ b ∈ fp, FpOk X pins H' b := fun hn b hb => ⟨hn b hb, (f2 b hb).2⟩
  refine codeAny_forLoop_any (fun n s' => ∃ i σ' H', Inv X pins σ' H' s' ∧ tn i s'.heap ∧ (∀ b ∈ fp, H' b = none) ∧ W i n σ' H') ?_ m0 ⟨0, σ, H2, I2, st2, fun b hb => (f2 b hb).1, w0⟩
  rintro n s3 ⟨i, σ3, H3, I3, st3, fr3, w3⟩
  rcases turn i n σ3 H3 w3 with ⟨stop, qn⟩ | ⟨go, N, hN, step⟩
  · refine wpAny_passesOwn hp (thn (T.done X rfl rfl rfl hc i pins s3 σ3 H3 X.xe I3 (stat fr3) st3 stop) fun r s4 ⟨hr, I4⟩ => ?_)
    subst hr
    exact wpAny_execs_nil ⟨σ3, H3, I4, qn⟩
  · refine wpAny_passesOwn hp (thn (T.item X rfl rfl rfl hc i pins s3 σ3 H3 X.xe I3 (stat fr3) st3 go) fun r s4 ⟨u, hr, h4⟩ => ?_)
    subst hr
    refine wpAny_passesOwn hp (thn h4 fun _ s5 ⟨x, H5, I5, r5, y5, st5, fr5⟩ => ?_)
    have I5' := I5.pinned (stat fr5) (T.obj _ _ st5)
    refine wpAny_passesOwn hp (thn (hg _ s5 σ3 H5 x u _ I5' r5 (step x H5 y5)) fun _ s6 ⟨σ6, H6, I6, q6⟩ => ?_)
    refine wpAny_passesOwn hp (thn (hb _ s6 σ6 H6 _ I6 q6) fun f s7 q7 => ?_)
    have again : ∀ {σ7 : St} {H7 : Hp}, Inv X (pins ++ pinsAt fp s5.heap) σ7 H7 s7 → N σ7 H7 → ∃ m, m < n ∧ ∃ i σ' H', Inv X pins σ' H' s7 ∧ tn i s7.heap ∧ (∀ b ∈ fp, H' b = none) ∧ W i m σ' H' := fun {σ7 H7} I7 n7 => by
      obtain ⟨m', hm, w7⟩ := hN σ7 H7 n7
      refine ⟨m', hm, i + 1, σ7, H7, I7.unpinned, T.keep _ _ _ st5 fun b hb o e => (I7.pin (b, o) (List.mem_append_right _ (List.mem_append_right _ (mem_pinsAt hb e)))).1, fun b hb => ?_, w7⟩
      obtain ⟨o, e, d⟩ := T.obj _ _ st5 b hb
      exact (I7.pin (b, o) (List.mem_append_right _ (List.mem_append_right _ (mem_pinsAt hb e)))).2.1
    cases f with
    | next => obtain ⟨σ7, H7, I7, n7⟩ := q7; exact again I7 n7
    | cont => obtain ⟨σ7, H7, I7, n7⟩ := q7; exact again I7 n7
    | brk => obtain ⟨σ7, H7, I7, q7⟩ := q7; exact ⟨σ7, H7, I7.unpinned, q7⟩
    | ret v => obtain ⟨x7, σ7, H7, I7, r7, q7⟩ := q7; exact ⟨x7, σ7, H7, I7.unpinned, r7, q7⟩
end
theorem for_list {K : PySem.W.Frag} {a : Addr} {xs : List V} {g : TG} {tb : TS} {D : Ends} {σ : St} {H : Hp} (Pv : Nat → St → Hp → Prop) (h0 : Pv 0 σ H) (hl : ∀ i σ H, i ≤ xs.length → Pv i σ H → SqL K H a xs)
    (hs : ∀ i x σ H, xs[i]? = some x → Pv i σ H → g x σ H fun σ2 H2 => tb { D with nx := Pv (i + 1), ct := Pv (i + 1), bk := D.nx } σ2 H2) (hd : ∀ σ H, Pv xs.length σ H → D.nx σ H) :
    ∃ W : Nat → Nat → St → Hp → Prop, (∃ m, W 0 m σ H) ∧ ∀ i m σ H, W i m σ H →
      ((Itl K a).stop i H ∧ D.nx σ H) ∨ ((Itl K a).go i H ∧ ∃ N : St → Hp → Prop, (∀ σ' H', N σ' H' → ∃ m', m' < m ∧ W (i + 1) m' σ' H') ∧ ∀ x H', (Itl K a).yld i H x H' → g x σ H' fun σ2 H2 => tb { D with nx := N, ct := N, bk := D.nx } σ2 H2) := by
  refine ⟨fun i m σ H => m = xs.length - i ∧ i ≤ xs.length ∧ Pv i σ H, ⟨xs.length, by simp, Nat.zero_le _, h0⟩, ?_⟩
  rintro i m σ H ⟨rfl, hi, p⟩
  have q := hl i σ H hi p
  by_cases hlt : i < xs.length
  · refine .inr ⟨⟨xs, xs[i], q, by simp [hlt]⟩, Pv (i + 1), fun σ' H' p' => ⟨xs.length - (i + 1), by omega, rfl, hlt, p'⟩, fun x H' y => ?_⟩
    obtain ⟨e, y⟩ := y
    subst e
    exact hs i x σ _ (y xs q) p
  · have e : i = xs.length := by omega
    subst e
    exact .inl ⟨⟨xs, q, Nat.le_refl _⟩, hd σ H p⟩
theorem for_range {lo : Int} {n : Nat} {g : TG} {tb : TS} {D : Ends} {σ : St} {H : Hp} (Pv : Nat → St → Hp → Prop) (h0 : Pv 0 σ H)
    (hs : ∀ i σ H, i < n → Pv i σ H → g (.int (lo + i)) σ H fun σ2 H2 => tb { D with nx := Pv (i + 1), ct := Pv (i + 1), bk := D.nx } σ2 H2) (hd : ∀ σ H, Pv n σ H → D.nx σ H) :
    ∃ W : Nat → Nat → St → Hp → Prop, (∃ m, W 0 m σ H) ∧ ∀ i m σ H, W i m σ H →
      ((Itr lo n).stop i H ∧ D.nx σ H) ∨ ((Itr lo n).go i H ∧ ∃ N : St → Hp → Prop, (∀ σ' H', N σ' H' → ∃ m', m' < m ∧ W (i + 1) m' σ' H') ∧ ∀ x H', (Itr lo n).yld i H x H' → g x σ H' fun σ2 H2 => tb { D with nx := N, ct := N, bk := D.nx } σ2 H2) := by
  refine ⟨fun i m σ H => m = n - i ∧ i ≤ n ∧ Pv i σ H, ⟨n, by simp, Nat.zero_le _, h0⟩, ?_⟩
  rintro i m σ H ⟨rfl, hi, p⟩
  by_cases hlt : i < n
  · refine .inr ⟨hlt, Pv (i + 1), fun σ' H' p' => ⟨n - (i + 1), by omega, rfl, hlt, p'⟩, fun x H' y => ?_⟩
    obtain ⟨e, y⟩ := y
    subst e y
    exact hs i σ _ hlt p
  · have e : i = n := by omega
    subst e
    exact .inl ⟨Nat.le_refl _, hd σ H p⟩
end L2
namespace L2
open PySem PySem.Spec PyProof.Rows
abbrev R2 := V → V → Hp → VK → Prop
def OpR (X : Cx) (f : Value → Value → Sem Value) (r : R2) : Prop :=
  ∀ (pins : List (Addr × Obj)) (s : Shared) (σ : St) (H : Hp) (x y : V) (v u : Value) (Q : VK), Inv X pins σ H s → RelV x v → RelV y u → r x y H Q →
    wpAny (model X.prog X.w) X.A (f v u) (EP X pins σ Q) X.xe s
def CallR (X : Cx) (f : Value) (r : List V → Hp → VK → Prop) : Prop :=
  ∀ (pins : List (Addr × Obj)) (s : Shared) (σ : St) (H : Hp) (xs : List V) (us : List Value) (Q : VK), Inv X pins σ H s → Vals xs us → r xs H Q →
    wpAny (model X.prog X.w) X.A (call f us) (EP X pins σ Q) X.xe s
def tOp (r : R2) (ta tb : TE) : TE := fun σ H Q => ta σ H fun x H1 => tb σ H1 fun y H2 => r x y H2 Q
def rI (C : Int → Int → Prop) (g : Int → Int → V) : R2 := fun x y H Q => ∃ i j, x = .int i ∧ y = .int j ∧ C i j ∧ Q (g i j) H
def rI0 (g : Int → Int → V) : R2 := fun x y H Q => ∃ i j, x = .int i ∧ y = .int j ∧ Q (g i j) H
section
variable {X : Cx} {a b c : Expr} {ta tb tc : TE} {pos : Pos}
theorem binT (ha : PE X a ta) (hb : PE X b tb) {pins : List (Addr × Obj)} {s : Shared} {σ : St} {H : Hp} {R : V → V → Hp → Prop} (I : Inv X pins σ H s)
    (h : ta σ H fun x H1 => tb σ H1 fun y H2 => R x y H2) {Q : Value → Shared → Prop} {f : Value → Value → Sem Value}
    (hf : ∀ v u s2 x y H2, Inv X pins σ H2 s2 → RelV x v → RelV y u → R x y H2 → wpAny (model X.prog X.w) X.A (f v u) Q X.xe s2) :
    wpAny (model X.prog X.w) X.A (eval a X.env) (fun v s₁ => wpAny (model X.prog X.w) X.A (eval b X.env) (fun u s₂ => wpAny (model X.prog X.w) X.A (f v u) Q X.xe s₂) X.xe s₁) X.xe s := by
  refine thn (ha pins s σ H _ I h) fun v s1 ⟨x, H1, I1, r1, q1⟩ => ?_
  refine thn (hb pins s1 σ H1 _ I1 q1) fun u s2 ⟨y, H2, I2, r2, q2⟩ => ?_
  exact hf v u s2 x y H2 I2 r1 r2 q2
theorem pe_op {op : Operator} {r : R2} (ho : OpR X (binaryOp op) r) (ha : PE X a ta) (hb : PE X b tb) : PE X (.BinOp a op b pos) (tOp r ta tb) := by
  intro pins s σ H Q I h
  exact wpAny_BinOp (binT ha hb I h fun v u s2 x y H2 I2 rx ry q => ho pins s2 σ H2 x y v u Q I2 rx ry q)
theorem opI {f : Value → Value → Sem Value} {C : Int → Int → Prop} {g : Int → Int → Int}
    (rule : ∀ (i j : Int) (t u : Tok) (s : Shared) (Q : Value → Shared → Prop) (E : Value → Shared → Prop), C i j → Q (.int (g i j) s.toks) { s with toks := s.toks + 1 } → wpAny (model X.prog X.w) X.A (f (.int i t) (.int j u)) Q E s) :
    OpR X f (rI C fun i j => .int (g i j)) := by
  intro pins s σ H x y v u Q I rx ry h
  obtain ⟨i, j, rfl, rfl, hc, q⟩ := h
  obtain ⟨t, rfl⟩ := rx
  obtain ⟨t', rfl⟩ := ry
  exact rule i j t t' s _ _ hc ⟨.int (g i j), H, I.tok _, ⟨_, rfl⟩, q⟩
theorem opI0 {f : Value → Value → Sem Value} {g : Int → Int → Int}
    (rule : ∀ (i j : Int) (t u : Tok) (s : Shared) (Q : Value → Shared → Prop) (E : Value → Shared → Prop), Q (.int (g i j) s.toks) { s with toks := s.toks + 1 } → wpAny (model X.prog X.w) X.A (f (.int i t) (.int j u)) Q E s) :
    OpR X f (rI0 fun i j => .int (g i j)) := by
  intro pins s σ H x y v u Q I rx ry h
  obtain ⟨i, j, rfl, rfl, q⟩ := h
  obtain ⟨t, rfl⟩ := rx
  obtain ⟨t', rfl⟩ := ry
  exact rule i j t t' s _ _ ⟨.int (g i j), H, I.tok _, ⟨_, rfl⟩, q⟩
theorem opB0 {f : Value → Value → Sem Value} {g : Int → Int → Bool}
    (rule : ∀ (i j : Int) (t u : Tok) (s : Shared) (Q : Value → Shared → Prop) (E : Value → Shared → Prop), Q (.bool (g i j)) s → wpAny (model X.prog X.w) X.A (f (.int i t) (.int j u)) Q E s) :
    OpR X f (rI0 fun i j => .bl (g i j)) := by
  intro pins s σ H x y v u Q I rx ry h
  obtain ⟨i, j, rfl, rfl, q⟩ := h
  obtain ⟨t, rfl⟩ := rx
  obtain ⟨t', rfl⟩ := ry
  exact rule i j t t' s _ _ ⟨.bl (g i j), H, I, rfl, q⟩
def CPow (i j : Int) : Prop := 0 ≤ j ∧ j ≤ 1000000 ∧ i.natAbs < 2 ^ 64
def CMul (i j : Int) : Prop := (-(2 ^ 64) < i ∧ i < 2 ^ 64) ∨ (-(2 ^ 64) < j ∧ j < 2 ^ 64)
theorem CMul.ok {i j : Int} (h : CMul i j) : IntMulOk i j := by
  rcases h with ⟨h1, h2⟩ | ⟨h1, h2⟩
  · exact .of_left (intBits_le_64 h1 h2)
  · exact .of_right (intBits_le_64 h1 h2)
theorem op_add : OpR X (binaryOp .Add) (rI0 fun i j => .int (i + j)) := opI0 fun _ _ _ _ _ _ _ q => add_int q
theorem op_sub : OpR X (binaryOp .Sub) (rI0 fun i j => .int (i - j)) := opI0 fun _ _ _ _ _ _ _ q => sub_int q
theorem op_mul : OpR X (binaryOp .Mult) (rI CMul fun i j => .int (i * j)) := opI fun _ _ _ _ _ _ _ hc q => mul_int q hc.ok
theorem op_mod : OpR X (binaryOp .Mod) (rI (fun _ j => 0 < j) fun i j => .int (i % j)) := opI fun i j _ _ _ _ _ hc q => by
  have h1 : (0 : Int) < j := hc
  exact mod_int' (by omega) (by rw [Int.fmod_eq_emod_of_nonneg i (by omega)]; exact q)
theorem op_pow : OpR X (binaryOp .Pow) (rI CPow fun i j => .int (i ^ j.toNat)) := opI fun _ _ _ _ _ _ _ hc q => pow_int_small hc.1 hc.2.1 hc.2.2 q
end
def scal : V → V → Bool
  | .non, .non => true | .non, .int _ => true | .int _, .non => true | .non, .bl _ => true | .bl _, .non => true | .non, .str _ => true | .str _, .non => true
  | .int _, .int _ => true | .bl _, .bl _ => true | .str _, .str _ => true | .byt _, .byt _ => true
  | .int _, .str _ => true | .str _, .int _ => true | .bl _, .str _ => true | .str _, .bl _ => true
  | _, _ => false
def rEq : R2 := fun x y H Q => scal x y = true ∧ Q (.bl (decide (x = y))) H
def rNe : R2 := fun x y H Q => scal x y = true ∧ Q (.bl (!decide (x = y))) H
theorem dec_int {i j : Int} : decide (V.int i = V.int j) = (i == j) := by
  rw [Bool.eq_iff_iff]
  simp
theorem dec_bl {i j : Bool} : decide (V.bl i = V.bl j) = (i == j) := by
  rw [Bool.eq_iff_iff]
  simp
theorem dec_str {i j : Str} : decide (V.str i = V.str j) = (i == j) := by
  rw [Bool.eq_iff_iff]
  simp
theorem dec_byt {i j : Array UInt8} : decide (V.byt i = V.byt j) = (i.toList == j.toList) := by
  rw [Bool.eq_iff_iff]
  cases i
  cases j
  simp
section
variable {X : Cx} {a b c : Expr} {ta tb tc : TE} {pos : Pos}
theorem fin_bl {pins : List (Addr × Obj)} {σ : St} {H : Hp} {s : Shared} {Q : VK} {k k' : Bool} (I : Inv X pins σ H s) (q : Q (.bl k) H) (e : k = k') : EP X pins σ Q (.bool k') s := by
  subst e
  exact ⟨.bl k, H, I, rfl, q⟩
theorem op_eq : OpR X (compareOp .Eq) rEq := by
  intro pins s σ H x y v u Q I rx ry h
  obtain ⟨hs, q⟩ := h
  cases x with
  | non =>
    cases rx
    cases y with
    | non => cases ry; exact PySem.EqNone.eq_none_none (fin_bl I q (by simp))
    | bl j => cases ry; exact PySem.EqNone.eq_none_bool (fin_bl I q (by simp))
    | int j => obtain ⟨t', rfl⟩ := ry; exact PySem.EqNone.eq_none_int (fin_bl I q (by simp))
    | str j => obtain ⟨t', rfl⟩ := ry; exact PySem.EqNone.eq_none_str (fin_bl I q (by simp))
    | _ => exact absurd (show false = true from hs) Bool.false_ne_true
  | bl i =>
    cases rx
    cases y with
    | non => cases ry; exact PySem.EqNone.eq_bool_none (fin_bl I q (by simp))
    | bl j => cases ry; exact eq_bool (fin_bl I q dec_bl)
    | str j => obtain ⟨t', rfl⟩ := ry; exact PySem.EqMixed.eq_bool_str (fin_bl I q (by simp))
    | _ => exact absurd (show false = true from hs) Bool.false_ne_true
  | int i =>
    obtain ⟨t, rfl⟩ := rx
    cases y with
    | non => cases ry; exact PySem.EqNone.eq_int_none (fin_bl I q (by simp))
    | int j => obtain ⟨t', rfl⟩ := ry; exact eq_int (fin_bl I q dec_int)
    | str j => obtain ⟨t', rfl⟩ := ry; exact PySem.EqMixed.eq_int_str (fin_bl I q (by simp))
    | _ => exact absurd (show false = true from hs) Bool.false_ne_true
  | str i =>
    obtain ⟨t, rfl⟩ := rx
    cases y with
    | non => cases ry; exact PySem.EqNone.eq_str_none (fin_bl I q (by simp))
    | bl j => cases ry; exact PySem.EqMixed.eq_str_bool (fin_bl I q (by simp))
    | int j => obtain ⟨t', rfl⟩ := ry; exact PySem.EqMixed.eq_str_int (fin_bl I q (by simp))
    | str j => obtain ⟨t', rfl⟩ := ry; exact eq_str (fin_bl I q dec_str)
    | _ => exact absurd (show false = true from hs) Bool.false_ne_true
  | byt i =>
    obtain ⟨t, rfl⟩ := rx
    cases y with
    | byt j => obtain ⟨t', rfl⟩ := ry; exact PySem.W.eq_bytes (fin_bl I q dec_byt)
    | _ => exact absurd (show false = true from hs) Bool.false_ne_true
  | _ => cases y <;> exact absurd (show false = true from hs) Bool.false_ne_true
theorem op_ne : OpR X (compareOp .NotEq) rNe := by
  intro pins s σ H x y v u Q I rx ry h
  obtain ⟨hs, q⟩ := h
  cases x with
  | non =>
    cases rx
    cases y with
    | non => cases ry; exact PySem.EqNone.ne_none_none (fin_bl I q (by simp))
    | bl j => cases ry; exact PySem.EqNone.ne_none_bool (fin_bl I q (by simp))
    | int j => obtain ⟨t', rfl⟩ := ry; exact PySem.EqNone.ne_none_int (fin_bl I q (by simp))
    | str j => obtain ⟨t', rfl⟩ := ry; exact PySem.EqNone.ne_none_str (fin_bl I q (by simp))
    | _ => exact absurd (show false = true from hs) Bool.false_ne_true
  | bl i =>
    cases rx
    cases y with
    | non => cases ry; exact PySem.EqNone.ne_bool_none (fin_bl I q (by simp))
    | bl j => cases ry; exact ne_bool (fin_bl I q (congrArg not dec_bl))
    | str j => obtain ⟨t', rfl⟩ := ry; exact PySem.EqMixed.ne_bool_str (fin_bl I q (by simp))
    | _ => exact absurd (show false = true from hs) Bool.false_ne_true
  | int i =>
    obtain ⟨t, rfl⟩ := rx
    cases y with
    | non => cases ry; exact PySem.EqNone.ne_int_none (fin_bl I q (by simp))
    | int j => obtain ⟨t', rfl⟩ := ry; exact ne_int (fin_bl I q (congrArg not dec_int))
    | str j => obtain ⟨t', rfl⟩ := ry; exact PySem.EqMixed.ne_int_str (fin_bl I q (by simp))
    | _ => exact absurd (show false = true from hs) Bool.false_ne_true
  | str i =>
    obtain ⟨t, rfl⟩ := rx
    cases y with
    | non => cases ry; exact PySem.EqNone.ne_str_none (fin_bl I q (by simp))
    | bl j => cases ry; exact PySem.EqMixed.ne_str_bool (fin_bl I q (by simp))
    | int j => obtain ⟨t', rfl⟩ := ry; exact PySem.EqMixed.ne_str_int (fin_bl I q (by simp))
    | str j => obtain ⟨t', rfl⟩ := ry; exact ne_str (fin_bl I q (congrArg not dec_str))
    | _ => exact absurd (show false = true from hs) Bool.false_ne_true
  | byt i =>
    obtain ⟨t, rfl⟩ := rx
    cases y with
    | byt j => obtain ⟨t', rfl⟩ := ry; exact PySem.W.ne_bytes (fin_bl I q (congrArg not dec_byt))
    | _ => exact absurd (show false = true from hs) Bool.false_ne_true
  | _ => cases y <;> exact absurd (show false = true from hs) Bool.false_ne_true
theorem op_lt : OpR X (compareOp .Lt) (rI0 fun i j => .bl (decide (i < j))) := opB0 fun _ _ _ _ _ _ _ q => lt_int q
theorem op_le : OpR X (compareOp .LtE) (rI0 fun i j => .bl (decide (i ≤ j))) := opB0 fun _ _ _ _ _ _ _ q => le_int q
theorem op_gt : OpR X (compareOp .Gt) (rI0 fun i j => .bl (decide (j < i))) := opB0 fun _ _ _ _ _ _ _ q => gt_int q
theorem nomark (b : Expr) {op : CmpOp} (h : op ≠ .In := by decide) (h2 : op ≠ .NotIn := by decide) : behindInMarks op b = false := by
  have e1 : (op == CmpOp.In) = false := by cases op <;> first | rfl | exact absurd rfl h
  have e2 : (op == CmpOp.NotIn) = false := by cases op <;> first | rfl | exact absurd rfl h2
  cases b <;> simp [behindInMarks, e1, e2]
theorem pe_cmpR {op : CmpOp} {r : R2} (ho : OpR X (compareOp op) r) (ha : PE X a ta) (hb : PE X b tb) (hm : behindInMarks op b = false) : PE X (.Compare a [op] [b] pos) (tOp r ta tb) := by
  intro pins s σ H Q I h
  exact wpAny_Compare1 (binT ha hb I h fun v u s2 x y H2 I2 rx ry q => ho pins s2 σ H2 x y v u Q I2 rx ry q) hm
def tTest (t : TE) : TT := fun σ H Q => t σ H fun x H' => ∃ k, x = .bl k ∧ Q k H'
theorem pt_cmpR {op : CmpOp} {r : R2} (ho : OpR X (compareOp op) r) (ha : PE X a ta) (hb : PE X b tb) (hm : behindInMarks op b = false) : PT X (.Compare a [op] [b] pos) (tTest (tOp r ta tb)) := by
  intro pins s σ H Q I h
  refine wpAny_isTrue_Compare1 (thn (ha pins s σ H _ I h) fun v s1 ⟨x, H1, I1, r1, q1⟩ => thn (hb pins s1 σ H1 _ I1 q1) fun u s2 ⟨y, H2, I2, r2, q2⟩ =>
    thn (ho pins s2 σ H2 x y v u _ I2 r1 r2 q2) fun c s3 ⟨z, H3, I3, r3, k, e, q3⟩ => ?_) hm
  subst e
  cases r3
  exact wpAny_truthy_bool ⟨H3, I3, q3⟩
theorem line63 : (sizeLine : Nat) < 2 ^ 63 := by rw [sizeLine_eq]; decide
theorem vals1 {x : V} {us : List Value} (r : Vals [x] us) : ∃ u, us = [u] ∧ RelV x u := by
  cases r with
  | cons r1 r2 => cases r2; exact ⟨_, rfl, r1⟩
theorem call_abs : CallR X (.builtin "abs") (fun xs H Q => ∃ i, xs = [.int i] ∧ Q (.int (if i < 0 then -i else i)) H) := by
  intro pins s σ H xs us Q I r h
  obtain ⟨i, rfl, q⟩ := h
  obtain ⟨u, rfl, t, rfl⟩ := vals1 r
  exact call_abs_int fun u tk => ⟨.int (if i < 0 then -i else i), H, I.tok _, ⟨_, rfl⟩, q⟩
theorem call_int1 : CallR X (.type "int") (fun xs H Q => (∃ i, xs = [.int i] ∧ Q (.int i) H) ∨ ∃ k, xs = [.bl k] ∧ Q (.int (if k then 1 else 0)) H) := by
  intro pins s σ H xs us Q I r h
  rcases h with ⟨i, rfl, q⟩ | ⟨k, rfl, q⟩
  · obtain ⟨u, rfl, t, rfl⟩ := vals1 r
    exact call_int_int ⟨.int i, H, I, ⟨_, rfl⟩, q⟩
  · obtain ⟨u, rfl, r1⟩ := vals1 r
    cases r1
    exact call_int_bool ⟨.int (if k then 1 else 0), H, I.tok _, ⟨_, rfl⟩, q⟩
end
end L2
namespace L2
open PySem PySem.Spec PyProof.Rows
structure ObjM (h : Heap) (x dx C : Addr) (mA : Str → Option Value) : Prop where
  obj : h.get? x = some (PySem.W.instObj C dx)
  ns : h.Ns1 dx mA
  ne : dx ≠ x
theorem lookIn_ns {h : Heap} {dx : Addr} {mA : Str → Option Value} (n : h.Ns1 dx mA) : ∃ od, h.get? dx = some od ∧ ∀ name, PySem.W.lookIn name od = some (mA name) := by
  obtain ⟨o, es, ep, ho, hd, hk, _, hm⟩ := n
  refine ⟨o, ho, fun name => ?_⟩
  have e := hm name
  unfold nsFind findBy at e
  rw [← Array.find?_toList] at e
  unfold PySem.W.lookIn
  rw [hd]
  dsimp only
  split
  · rename_i y q
    rw [q] at e
    exact congrArg some e
  · rename_i q
    rw [q] at e
    have a : es.toList.any (·.refKey) = false := by
      rw [List.any_eq_false]
      intro y hy
      obtain ⟨z, t, hkey⟩ := hk y (Array.mem_toList_iff.mp hy)
      simp [DictEntry.refKey, hkey]
    have a' : ¬ es.toList.any (·.refKey) = true := by rw [a]; exact Bool.false_ne_true
    rw [if_neg a']
    exact congrArg some e
theorem ObjM.look {h : Heap} {x dx C : Addr} {mA : Str → Option Value} (I : ObjM h x dx C mA) : ∃ od, PySem.W.InstAt h x (PySem.W.instObj C dx) C (some od) ∧ ∀ name, PySem.W.lookIn name od = some (mA name) :=
  let ⟨od, ho, hl⟩ := lookIn_ns I.ns
  ⟨od, ⟨I.obj, rfl, rfl, ho⟩, hl⟩
section
variable {prog : Program} {w : World} {A : Around} {E : Value → Shared → Prop} {s : Shared} {K : PySem.W.Frag} {x dx C f : Addr} {mA : Str → Option Value} {name : Str} {v : Value}
end
section
variable {P : Program} {w : World} {H H' : Hp} {h h' : Heap} {a C dx : Addr} {fs fs' : List (Str × V)}
theorem ins_get (hok : HOk P w H h) (e : H a = some (.ins C dx fs)) : ∃ mA, ObjM h a dx C mA ∧ (∀ f, RelO (fs.lookup f) (mA f)) ∧ PySem.Within mA (fs.map (·.1)) ∧ fs.length ≤ 1000 ∧ H dx = some (.own a) := by
  obtain ⟨d, z, ne, ob, mA, n, r, q⟩ := (show ObjOk P w H h a (.ins C dx fs) from hok a _ e)
  exact ⟨mA, ⟨ob, n, ne⟩, r, q, z, d⟩
end
structure Cls (K : PySem.W.Frag) (C : Addr) : Prop where
  pg : PySem.W.plainGet K C Str.empty = true
  hd : PySem.W.hasDictIn K C = true
  po : PySem.W.plainOver K C = true
  sa : PySem.W.findIn K (.ref C) "__setattr__" = some (some (.builtin "object.__setattr__"))
theorem Cls.get {K : PySem.W.Frag} {C : Addr} (c : Cls K C) (f : Str) : PySem.W.plainGet K C f = true := c.pg
section
variable {X : Cx} {pins : List (Addr × Obj)} {σ : St} {H : Hp} {s : Shared} {a C dx : Addr} {fs : List (Str × V)} {f : Str} {v : V} {A : Around} {E : Value → Shared → Prop}
end
section
variable {X : Cx} {o e value : Expr} {f : Str} {pos pos' tpos : Pos} {ta tv : TE}
end
section
variable {X : Cx} {pins : List (Addr × Obj)} {σ : St} {H : Hp} {s : Shared} {A : Around} {E : Value → Shared → Prop} {Q : Value → Shared → Prop} {c : Value} {b : Bool}
inductive TyOf (K : PySem.W.Frag) (H : Hp) : V → Value → Prop where
  | non : TyOf K H .non (.type "NoneType")
  | bl (x : Bool) : TyOf K H (.bl x) (.type "bool")
  | int (i : Int) : TyOf K H (.int i) (.type "int")
  | str (x : Str) : TyOf K H (.str x) (.type "str")
  | flt (x : UInt64) : TyOf K H (.flt x) (.type "float")
  | lst {a : Addr} {xs : List V} (e : H a = some (.lst xs)) : TyOf K H (.ref a) (.type "list")
  | frz {a : Addr} {o : Obj} {xs : List V} (e : H a = some (.frz o (.lst xs))) : TyOf K H (.ref a) (.type "list")
  | tup {a : Addr} {xs : List V} (e : H a = some (.tup xs)) : TyOf K H (.ref a) (.type "tuple")
  | dK {a : Addr} {kvs : List (Key × V)} (e : H a = some (.dK kvs)) : TyOf K H (.ref a) (.type "dict")
  | dT {a : Addr} {kvs : List (List Key × V)} (e : H a = some (.dT kvs)) : TyOf K H (.ref a) (.type "dict")
  | ins {a C dx : Addr} {fs : List (Str × V)} (e : H a = some (.ins C dx fs)) (cl : Cls K C) (ha : PySem.W.findIn K (.ref C) "__class__" = some (some (.builtin "object.__class__")))
      (hn : PySem.W.specialIn K (.builtin "object.__class__") "__get__" = some (some (.builtin "getset_descriptor.__get__"))) (htk : PySem.W.takesIn K (.builtin "object.__class__") = some true)
      (hm : PySem.W.mroIn K C (.type "object") = some true) : TyOf K H (.ref a) (.ref C)
theorem isinst_ok {x : V} {u t : Value} (I : Inv X pins σ H s) (rx : RelV x u) (ty : TyOf X.K H x t) (e : PySem.W.kitOne X.K t c = some b) (h : ∀ tk, Q (.bool b) { s with toks := tk }) :
    wpAny (model X.prog X.w) A (call (.builtin "isinstance") [u, c]) Q E s := by
  cases ty with
  | non => cases (show u = Value.none from rx); exact PySem.W.kia_one PySem.W.kitx_none I.kIn True.intro e (fun z => nomatch z) h
  | bl y => cases (show u = Value.bool y from rx); exact PySem.W.kia_one PySem.W.kitx_bool I.kIn True.intro e (fun z => nomatch z) h
  | int i => obtain ⟨t, q⟩ := (show ∃ t, u = Value.int i t from rx); cases q; exact PySem.W.kia_one PySem.W.kitx_int I.kIn True.intro e (fun z => nomatch z) h
  | str y => obtain ⟨t, q⟩ := (show ∃ t, u = Value.str y t from rx); cases q; exact PySem.W.kia_one PySem.W.kitx_str I.kIn True.intro e (fun z => nomatch z) h
  | flt y => obtain ⟨t, q⟩ := (show ∃ t, u = Value.float y t from rx); cases q; exact PySem.W.kia_one PySem.W.kitx_float I.kIn True.intro e (fun z => nomatch z) h
  | @lst a xs ea =>
    cases (show u = Value.ref a from rx)
    obtain ⟨_, _, n, _, h1⟩ := (show ObjOk X.prog X.w H s.heap a (.lst xs) from I.hok a _ ea)
    exact PySem.W.kia_one PySem.W.kitx_list I.kIn ⟨_, h1, rfl⟩ e (fun z => nomatch z) h
  | @frz a ob xs ea =>
    cases (show u = Value.ref a from rx)
    obtain ⟨_, _, _, n, _, h1⟩ := (show ObjOk X.prog X.w H s.heap a (.frz ob (.lst xs)) from I.hok a _ ea)
    exact PySem.W.kia_one PySem.W.kitx_list I.kIn ⟨_, h1, rfl⟩ e (fun z => nomatch z) h
  | @tup a xs ea =>
    cases (show u = Value.ref a from rx)
    obtain ⟨_, _, _, p⟩ := (show ObjOk X.prog X.w H s.heap a (.tup xs) from I.hok a _ ea)
    obtain ⟨o, h1, h2, _⟩ := p
    exact PySem.W.kia_one PySem.W.kitx_tuple I.kIn ⟨o, h1, h2⟩ e (fun z => nomatch z) h
  | @dK a kvs ea =>
    cases (show u = Value.ref a from rx)
    obtain ⟨_, _, vs, _, p⟩ := (show ObjOk X.prog X.w H s.heap a (.dK kvs) from I.hok a _ ea)
    obtain ⟨o, es, ep, h1, h2, _⟩ := p
    exact PySem.W.kia_one PySem.W.kitx_dict I.kIn ⟨o, h1, h2.1⟩ e (fun z => nomatch z) h
  | @dT a kvs ea =>
    cases (show u = Value.ref a from rx)
    obtain ⟨_, _, xs, _, o, es, ep, h1, h2, _⟩ := (show ObjOk X.prog X.w H s.heap a (.dT kvs) from I.hok a _ ea)
    exact PySem.W.kia_one PySem.W.kitx_dict I.kIn ⟨o, h1, h2.1⟩ e (fun z => nomatch z) h
  | @ins a C dx fs ea cl ha hn htk hm =>
    cases (show u = Value.ref a from rx)
    obtain ⟨mA, O, _⟩ := ins_get I.hok ea
    obtain ⟨od, J, _⟩ := O.look
    exact PySem.W.kia_one (PySem.W.kitx_own (cl.get _) cl.hd ha hn htk hm) I.kIn J e (fun z => nomatch z) h
end
end L2
namespace L2
open PySem PySem.Spec PyProof.Rows
structure Room (k : Nat) (A : Around) : Prop where
  hd : A.handled = none
  dp : A.depth + 3 * k + 5 < recursionLimit
  un : A.units + 16 * k + 200 < cLine
theorem Room.mono {j k : Nat} {A : Around} (r : Room k A) (h : j ≤ k) : Room j A := ⟨r.hd, by have := r.dp; omega, by have := r.un; omega⟩
theorem Room.deeper {k : Nat} {A : Around} (r : Room (k + 1) A) (env : Env) : Room k (A.deeper env) :=
  ⟨r.hd, by have := r.dp; show A.depth + 1 + 3 * k + 5 < _; omega, by have := r.un; show A.units + 3 + 16 * k + 200 < _; omega⟩
theorem Room.depth {k : Nat} {A : Around} (r : Room k A) : A.depth < recursionLimit := by have := r.dp; omega
theorem Room.units {k : Nat} {A : Around} (r : Room k A) : A.units + 64 < cLine := by have := r.un; omega
def tNil : TA := fun _ H Q => Q [] H
def tCons (ta : TE) (tr : TA) : TA := fun σ H Q => ta σ H fun x H1 => tr σ H1 fun xs H2 => Q (x :: xs) H2
section
variable {X : Cx} {e : Expr} {es : List Expr} {te : TE} {t : TA} {pos : Pos}
theorem pa_nil : PA X [] tNil := fun _ _ _ _ H Q I h => Calls.spliced_nil ⟨[], H, I, .nil, h⟩
theorem pa_cons (ha : PE X e te) (hr : PA X es t) (hs : starEach (e :: es) X.env = (false, eval e X.env) :: starEach es X.env := by rfl) : PA X (e :: es) (tCons te t) := by
  intro pos pins s σ H Q I h
  rw [hs]
  show wpAny _ _ (spliced ((false, eval e X.env) :: backTo pos (starEach es X.env))) _ _ s
  refine Calls.spliced_cons (thn (ha pins s σ H _ I h) fun u s1 ⟨x, H1, I1, r1, q1⟩ => ?_)
  exact thn (hr pos pins s1 σ H1 _ I1 q1) fun us s2 ⟨xs, H2, I2, r2, q2⟩ => ⟨x :: xs, H2, I2, .cons r1 r2, q2⟩
def tTup (t : TA) : TE := fun σ H Q => t σ H fun xs H1 => xs.length ≤ sizeLine ∧ ∀ p, H1 p = none → Q (.ref p) (upd H1 p (.tup xs))
def tLst (t : TA) : TE := fun σ H Q => t σ H fun xs H1 => xs.length ≤ sizeLine ∧ ∀ p, H1 p = none → Q (.ref p) (upd H1 p (.lst xs))
theorem pe_tup {x1} (h : PA X es t) : PE X (.Tuple es x1 pos) (tTup t) := by
  intro pins s σ H Q I hq
  refine wpAny_Tuple_spliced (thn (h pos pins s σ H _ I hq) fun us s1 ⟨xs, H1, I1, r, z, q⟩ => ⟨by rw [← r.length]; exact z, ?_⟩)
  have hf : H1 s1.heap.objs.size = none := I1.hok.fresh (Nat.le_refl _)
  refine ⟨.ref s1.heap.objs.size, upd H1 s1.heap.objs.size (.tup xs), I1.laid (t' := s1.toks) (fun b u e => Heap.get?_push_of_some _ e) (Nat.le_refl _) ?_, rfl, q _ hf⟩
  exact ⟨z, us, r, ⟨_, Heap.get?_push_size _ rfl, rfl, _, rfl⟩⟩
theorem pe_lst (h : PA X es t) : PE X (.List es pos) (tLst t) := by
  intro pins s σ H Q I hq
  refine wpAny_List_spliced (thn (h pos pins s σ H _ I hq) fun us s1 ⟨xs, H1, I1, r, z, q⟩ => ⟨by rw [← r.length]; exact z, ?_⟩)
  have hf : H1 s1.heap.objs.size = none := I1.hok.fresh (Nat.le_refl _)
  refine ⟨.ref s1.heap.objs.size, upd H1 s1.heap.objs.size (.lst xs), I1.laid (t' := s1.toks) (fun b u e => Heap.get?_push_of_some _ e) (Nat.le_refl _) ?_, rfl, q _ hf⟩
  exact ⟨z, us, 0, r, Heap.get?_push_size _ rfl⟩
end
abbrev Sp := List V → Hp → VK → XK → Prop
abbrev CXT := List Env → Hp → Shared → XK → Value → Shared → Prop
structure Env0 (P : Program) (w : World) (K : PySem.W.Frag) (mg : Str → Option Value) (base : Heap) (A : Around) (outer : List Env) (s : Shared) (H : Hp) : Prop where
  frames : A.frames = some outer
  mod : Mod K mg base
  bs : ∀ b o, base.get? b = some o → s.heap.get? b = some o ∧ H b = none
  bsz : base.objs.size ≤ s.heap.objs.size
  funs : s.heap.FunFrames base outer
  frf : ∀ b ∈ frs outer, H b = none
  hok : HOk P w H s.heap
  bare : AllBare s.gens
def CE (outer : List Env) (P : Program) (w : World) (H : Hp) (s : Shared) (Q : VK) (u : Value) (s' : Shared) : Prop :=
  ∃ v H', s'.os = s.os ∧ AllBare s'.gens ∧ Un (frs outer) [] H H' s.heap s'.heap ∧ HOk P w H' s'.heap ∧ RelV v u ∧ Q v H'
def CR (CX : CXT) (outer : List Env) (P : Program) (w : World) (H : Hp) (s : Shared) (Q : VK) (E : XK) (r : Result) (s' : Shared) : Prop :=
  match r with
  | .ok (.ret u) => CE outer P w H s Q u s'
  | .ok _ => False
  | .error e => CX outer H s E e s'
structure FnOk (P : Program) (w : World) (K : PySem.W.Frag) (mg : Str → Option Value) (base : Heap) (CX : CXT) (k : Nat) (f : Addr) (fd : FuncData) (ps : List Str) (sp : Sp) : Prop where
  len : ∀ vs H Q E, sp vs H Q E → vs.length = ps.length
  run : ∀ (A : Around) (outer : List Env) (s : Shared) (H : Hp) (args : Args) (us : List Value) (vs : List V) (Q : VK) (E : XK), Room k A → Env0 P w K mg base A outer s H → BindsTo s fd args (ps.zip us) → Vals vs us → sp vs H Q E →
    codeAny (model P w) A (.call (.ref f) args) (CR CX outer P w H s Q E) s
theorem FnOk.imp {P : Program} {w : World} {K : PySem.W.Frag} {mg : Str → Option Value} {base : Heap} {CX : CXT} {k : Nat} {f : Addr} {fd : FuncData} {ps : List Str} {sp sp' : Sp} (F : FnOk P w K mg base CX k f fd ps sp)
    (h : ∀ vs H Q E, sp' vs H Q E → sp vs H Q E) : FnOk P w K mg base CX k f fd ps sp' :=
  ⟨fun vs H Q E q => F.len vs H Q E (h _ _ _ _ q), fun A outer s H args us vs Q E hr he hb hv hs => F.run A outer s H args us vs Q E hr he hb hv (h _ _ _ _ hs)⟩
section
variable {X : Cx} {pins : List (Addr × Obj)} {σ : St} {H : Hp} {s s' : Shared}
theorem Inv.env0 (I : Inv X pins σ H s) : Env0 X.prog X.w X.K X.mg X.base X.A X.stack s H :=
  ⟨I.ok.frames, I.ok.mod, I.bs, Nat.le_trans I.ok.bsz I.sz, I.stack, I.stkFree, I.hok, I.bare⟩
theorem Inv.after {Q : VK} {u : Value} (I : Inv X pins σ H s) (h : CE X.stack X.prog X.w H s Q u s') : EP X pins σ Q u s' := by
  obtain ⟨v, H', os, bare, un, hok, r, q⟩ := h
  obtain ⟨hh, g, d, t, os'⟩ := s'
  obtain rfl : os' = s.os := os
  exact ⟨v, H', I.call (h' := hh) (g' := g) (d' := d) (t' := t) (ch := []) un hok bare (fun b z => absurd z (by simp)), r, q⟩
end
def tCall (sp : Sp) (dvs : List V) (E : XK) (t : TA) : TE := fun σ H Q => t σ H fun vs H1 => sp (vs ++ dvs) H1 Q E
def Binds (K : PySem.W.Frag) (fd : FuncData) (ps : List Str) (ds : List Value) : Prop :=
  ∀ (s : Shared) (us : List Value), K.In s.heap → (us ++ ds).length = ps.length → BindsTo s fd ⟨us, []⟩ (ps.zip (us ++ ds))
theorem Binds.all {K : PySem.W.Frag} {fd : FuncData} {ps : List Str} (h : ∀ us : List Value, us.length = ps.length → bindArgs fd ⟨us, []⟩ = pure (ps.zip us)) : Binds K fd ps [] := fun s us _ hl => by
  rw [List.append_nil] at hl ⊢
  exact .of_eq (h us hl)
def Passes (CX : CXT) (X : Cx) (E : XK) : Prop := ∀ (pins : List (Addr × Obj)) (σ : St) (H : Hp) (s : Shared) (e : Value) (s' : Shared), Inv X pins σ H s → CX X.stack H s E e s' → X.xe e s'
section
variable {X : Cx} {CX : CXT} {k : Nat} {f C : Addr} {fd : FuncData} {ps : List Str} {sp : Sp} {dvs : List V} {ds : List Value} {E : XK} {x m : Str} {p pos apos : Pos} {e o : Expr} {es : List Expr} {ta : TE} {t : TA}
theorem run_fn {pins : List (Addr × Obj)} {σ : St} {H : Hp} {s : Shared} {Q : VK} {us : List Value} {vs : List V} (F : FnOk X.prog X.w X.K X.mg X.base CX k f fd ps sp) (hr : Room k X.A) (hb : Binds X.K fd ps ds) (hd : Vals dvs ds) (hx : Passes CX X E)
    (I : Inv X pins σ H s) (r : Vals vs us) (h : sp (vs ++ dvs) H Q E) : wpAny (model X.prog X.w) X.A (call (.ref f) us) (EP X pins σ Q) X.xe s := by
  have r2 : Vals (vs ++ dvs) (us ++ ds) := r.append hd
  have hl : (us ++ ds).length = ps.length := by rw [← r2.length]; exact F.len _ _ _ _ h
  refine wpAny_call (codeAny_mono (F.run X.A X.stack s H ⟨us, []⟩ (us ++ ds) (vs ++ dvs) Q E hr I.env0 (hb s us I.kIn hl) r2 h) fun r s' hq => ?_)
  cases r with
  | error e => exact hx pins σ H s e s' I hq
  | ok fl =>
    cases fl with
    | ret u => exact I.after hq
    | next => exact False.elim hq
    | brk => exact False.elim hq
    | cont => exact False.elim hq
theorem pe_call (F : FnOk X.prog X.w X.K X.mg X.base CX k f fd ps sp) (hr : Room k X.A) (hg : Gl X x) (hm : X.mg x = some (.ref f)) (hk : PySem.W.keepIn X.K (.ref f) = true) (hb : Binds X.K fd ps ds) (hd : Vals dvs ds) (hx : Passes CX X E)
    (ha : PA X (e :: es) t) (hdb : (x == ("__debug__" : Str)) = false := by decide) (he : starEach (e :: es) X.env = (false, eval e X.env) :: starEach es X.env := by rfl) (hpl : (backTo pos (starEach es X.env)).any (·.1) = false := by rfl) :
    PE X (.Call (.Name x p) (e :: es) [] pos) (tCall sp dvs E t) := by
  intro pins s σ H Q I h
  refine wpAny_Call_Name_kw (ld_glob I hg hm ?_ hdb)
  refine PySem.W.callWith_K (h₀ := X.base) I.ok.mod.kin hk (thn (ha pos pins s σ H _ I h) fun us s1 ⟨vs, H1, I1, r, q⟩ => ⟨I1.kIn, ?_⟩) he hpl
  exact run_fn F hr hb hd hx I1 r q
end
section
variable {X : Cx} {CX : CXT} {k : Nat} {f C : Addr} {fd : FuncData} {ps ks : List Str} {sp : Sp} {E : XK} {x m : Str} {p pos apos kpos : Pos} {e o : Expr} {es : List Expr} {kws : List Keyword} {te ta : TE} {t tk : TA} {nm : Option Str}
variable {g : List Value → List Value → List Value} {gV : List V → List V → List V}
end
structure FnScope (N P : List Str) (sc : Scope) : Prop where
  kind : sc.kind = .function
  co : sc.isCoroutine = false
  gen : sc.isGenerator = false
  nd : N.Nodup
  pre : N.take P.length = P
  par : ∀ x ∈ P, sc.names.lookup x = some .local ∨ sc.names.lookup x = some .cell
  nofree : ∀ y ∈ sc.names, y.2 ≠ .free
theorem bindL_out {kindOf : Str → Option NameKind} {x : Str} : ∀ {binds : List (Str × Value)} {m : Str → Option Value}, (∀ v, (x, v) ∉ binds) → bindL kindOf binds m x = m x
  | [], _, _ => rfl
  | (n, v) :: r, m, h => by
    unfold bindL
    rw [bindL_out fun w hw => h w (List.mem_cons_of_mem _ hw)]
    split
    · have : x ≠ n := by rintro rfl; exact h v List.mem_cons_self
      simp [this]
    · rfl
theorem bindC_out {kindOf : Str → Option NameKind} {x : Str} : ∀ {binds : List (Str × Value)} {m : Str → Option Value}, (∀ v, (x, v) ∉ binds) → bindC kindOf binds m x = m x
  | [], _, _ => rfl
  | (n, v) :: r, m, h => by
    unfold bindC
    rw [bindC_out fun w hw => h w (List.mem_cons_of_mem _ hw)]
    split
    · rfl
    · have : x ≠ n := by rintro rfl; exact h v List.mem_cons_self
      simp [this]
theorem bindL_get {kindOf : Str → Option NameKind} {x : Str} {v : Value} : ∀ {P : List Str} {vs : List Value} {i : Nat} {m : Str → Option Value}, P.Nodup → P[i]? = some x → vs[i]? = some v → kindOf x = some .local →
    bindL kindOf (P.zip vs) m x = some v
  | [], _, _, _, _, h, _, _ => by simp at h
  | _ :: _, [], _, _, _, _, h, _ => by simp at h
  | p :: P, w :: vs, 0, m, nd, h1, h2, hk => by
    simp at h1 h2; subst h1; subst h2
    show bindL kindOf ((p, w) :: P.zip vs) m p = _
    unfold bindL
    rw [bindL_out fun v hv => (List.nodup_cons.mp nd).1 (List.of_mem_zip hv).1, if_pos hk]
    simp
  | p :: P, w :: vs, i + 1, m, nd, h1, h2, hk => by
    show bindL kindOf ((p, w) :: P.zip vs) m x = _
    unfold bindL
    exact bindL_get (i := i) (List.nodup_cons.mp nd).2 (by simpa using h1) (by simpa using h2) hk
theorem bindC_get {kindOf : Str → Option NameKind} {x : Str} {v : Value} : ∀ {P : List Str} {vs : List Value} {i : Nat} {m : Str → Option Value}, P.Nodup → P[i]? = some x → vs[i]? = some v → kindOf x ≠ some .local →
    bindC kindOf (P.zip vs) m x = some v
  | [], _, _, _, _, h, _, _ => by simp at h
  | _ :: _, [], _, _, _, _, h, _ => by simp at h
  | p :: P, w :: vs, 0, m, nd, h1, h2, hk => by
    simp at h1 h2; subst h1; subst h2
    show bindC kindOf ((p, w) :: P.zip vs) m p = _
    unfold bindC
    rw [bindC_out fun v hv => (List.nodup_cons.mp nd).1 (List.of_mem_zip hv).1, if_neg hk]
    simp
  | p :: P, w :: vs, i + 1, m, nd, h1, h2, hk => by
    show bindC kindOf ((p, w) :: P.zip vs) m x = _
    unfold bindC
    exact bindC_get (i := i) (List.nodup_cons.mp nd).2 (by simpa using h1) (by simpa using h2) hk
def start (N : List Str) (vs : List V) : St := vs.map some ++ List.replicate (N.length - vs.length) none
def cxOf (CX : CXT) (P : Program) (w : World) (K : PySem.W.Frag) (mg : Str → Option Value) (base : Heap) (N : List Str) (qual : Str) (scope : Scope) (f : Addr) (cd : Value) (A : Around) (outer : List Env) (s : Shared) (H : Hp) (E : XK) : Cx where
  prog := P
  w := w
  K := K
  mg := mg
  base := base
  A := A.deeper (envOfC qual scope s.heap.objs.size f cd)
  N := N
  s₀ := s
  H₀ := H
  env := envOfC qual scope s.heap.objs.size f cd
  outer := outer
  stack := envOfC qual scope s.heap.objs.size f cd :: outer
  ex := []
  calm := true
  fn := fun _ => true
  pn := []
  xe := fun e s' => wpAny (model P w) (A.deeper (envOfC qual scope s.heap.objs.size f cd)) (leaving (envOfC qual scope s.heap.objs.size f cd) e) (fun _ s'' => CX outer H s E e s'') (fun e' s'' => CX outer H s E e' s'') s'
theorem cell_has {sc : Scope} {n : Nat} {x : Str} (h : sc.names.lookup x = some .cell) : ∃ c, (cellsFrom n sc.names []).lookup x = some c := by
  have q := PySem.W.cellsFrom_some sc.names n [] (.inl h)
  exact Option.isSome_iff_exists.mp q
theorem inv_start {CX : CXT} {P : Program} {w : World} {K : PySem.W.Frag} {mg : Str → Option Value} {base : Heap} {N ps : List Str} {qual : Str} {scope : Scope} {f : Addr} {cd : Value} {A : Around} {outer : List Env} {s s1 : Shared} {H : Hp} {E : XK} {us : List Value} {vs : List V}
    (S : FnScope N ps scope) (hd : A.handled = none) (e0 : Env0 P w K mg base A outer s H) (hl : vs.length = ps.length) (r : Vals vs us)
    (x : InCallC s s.heap.objs.size (bindL (envOfC qual scope s.heap.objs.size f cd).kindOf (ps.zip us) fun _ => none) (cellsFrom (s.heap.objs.size + 1) scope.names []) (bindC (envOfC qual scope s.heap.objs.size f cd).kindOf (ps.zip us) fun _ => none) s1) :
    Inv (cxOf CX P w K mg base N qual scope f cd A outer s H E) [] (start N vs) H s1 := by
  have hpl : ps.length ≤ N.length := by have := congrArg List.length S.pre; rw [List.length_take] at this; omega
  obtain ⟨h1, tk, rfl, hk⟩ := x.done
  have noA : ∀ b : Addr, b ∉ (cxOf CX P w K mg base N qual scope f cd A outer s H E).ex := fun b z => absurd (show b ∈ ([] : List Addr) from z) (by simp)
  refine ⟨⟨e0.mod, S.kind, rfl, rfl, Nat.le_refl _, fun y z c h1 h2 => ?_, fun y hy => ?_, fun y c _ h => ?_, fun _ => hd, Around.frames_deeper e0.frames, .inr ⟨rfl, rfl⟩, fun b z => absurd z (noA b), e0.bs, e0.bsz, fun b _ _ => noA b, fun b z => absurd z (noA b), e0.funs, e0.frf⟩,
    rfl, e0.bare, Un.kept hk, ⟨_, x.toInCall.ns, fun i y v h1 h2 h3 => ?_⟩, fun y c h => ⟨_, x.cell y c h⟩, e0.hok.fresh (Nat.le_refl _), fun y c h => ?_, fun p hp => absurd (show p ∈ ([] : List (Addr × Obj)) from hp) (by simp), e0.hok.kept hk, ?_⟩
  · exact name_of_addr x.apart (PySem.mem_of_lookup h1) (PySem.mem_of_lookup h2)
  · have hy : scope.names.lookup y = some .cell ∨ scope.names.lookup y = some .free := hy
    rcases hy with hy | hy
    · exact cell_has hy
    · exact absurd rfl (S.nofree _ (PySem.mem_of_lookup hy))
  · exact Nat.le_of_lt (x.above y c (PySem.mem_of_lookup h))
  · have hi : i < vs.length := by
      unfold start at h2
      by_cases hi : i < vs.length
      · exact hi
      · rw [List.getElem?_append_right (by simpa using hi)] at h2
        rw [List.getElem?_replicate] at h2
        split at h2 <;> cases h2
    have ha : vs[i]? = some v := by
      unfold start at h2
      rw [List.getElem?_append_left (by simpa using hi), List.getElem?_map] at h2
      cases e : vs[i]? with
      | none => rw [e] at h2; cases h2
      | some a => rw [e] at h2; cases h2; rfl
    obtain ⟨u, hu, rv⟩ := r.get ha
    have hp : ps[i]? = some y := by
      rw [← S.pre, List.getElem?_take_of_lt (by omega)]; exact h1
    have ndP : ps.Nodup := by rw [← S.pre]; exact S.nd.sublist (List.take_sublist _ _)
    refine ⟨u, rv, ?_⟩
    rcases S.par y (List.mem_of_getElem? hp) with k | k
    · exact .inl ⟨k, bindL_get ndP hp hu k⟩
    · obtain ⟨c, e⟩ := cell_has (n := s.heap.objs.size + 1) k
      refine .inr ⟨.inl k, c, e, ?_⟩
      have q := x.cell y c e
      rw [bindC_get ndP hp hu (by show scope.names.lookup y ≠ _; rw [k]; decide)] at q
      exact q
  · exact e0.hok.fresh (Nat.le_of_lt (x.above y c (PySem.mem_of_lookup h)))
  · unfold start
    show _ = N.length
    rw [List.length_append, List.length_map, List.length_replicate]
    omega
theorem fn_of {CX : CXT} {P : Program} {w : World} {K : PySem.W.Frag} {mg : Str → Option Value} {base : Heap} {k : Nat} {f : Addr} {name qual : Str} {params : Arguments} {body : List Stmt} {scope : Scope} {dV kV doc pm cdv ct oc : Value} {an od : Option Addr}
    {osl : Array (Option Value)} {N ps : List Str} {sp : Sp} (lk : K.lookup f = some ⟨oc, od, .func (PySem.W.fnOf name qual params body scope dV kV doc pm an cdv ct), osl⟩) (hcd : PySem.W.codeIn K cdv qual = true) (S : FnScope N ps scope)
    (len : ∀ vs H Q E, sp vs H Q E → vs.length = ps.length)
    (hbody : ∀ (A : Around) (outer : List Env) (s : Shared) (H : Hp) (vs : List V) (Q : VK) (E : XK), Room k (A.deeper (envOfC qual scope s.heap.objs.size f cdv)) → sp vs H Q E →
      ∃ t, PSs (cxOf CX P w K mg base N qual scope f cdv A outer s H E) body t ∧ t { nx := fun _ H' => Q .non H', rt := Q } (start N vs) H) :
    FnOk P w K mg base CX (k + 1) f (PySem.W.fnOf name qual params body scope dV kV doc pm an cdv ct) ps sp := by
  refine ⟨len, fun A outer s H args us vs Q E hr e0 hb r hsp => ?_⟩
  have hl := len _ _ _ _ hsp
  have KX : K.In s.heap := e0.mod.kin.keeps fun b o e => (e0.bs b o e).1
  have lim : s.heap.NoLimit := e0.mod.nolimit.keeps fun b o e => (e0.bs b o e).1
  have hkind : ∀ y ∈ ps.zip us, scope.names.lookup y.1 = some .local ∨ (scope.names.lookup y.1 = some .cell ∧ ((cellsFrom (s.heap.objs.size + 1) scope.names []).lookup y.1).isSome = true) := fun ⟨n, v⟩ hy => by
    rcases S.par n (List.of_mem_zip hy).1 with q | q
    · exact .inl q
    · exact .inr ⟨q, PySem.W.cellsFrom_some _ _ _ (.inl q)⟩
  refine codeAny_call_function hr.depth (KX _ _ lk) rfl S.co S.gen rfl (PySem.W.codeRec_of KX hcd) (hb _ _ _ _ ?_)
  refine wpAny_newFunctionEnv_cells S.kind hkind fun env he s1 x => ?_
  subst he
  refine ⟨lim.keeps x.toInCall.keep, codeAny_func ?_⟩
  obtain ⟨t, ht, hq⟩ := hbody A outer s H vs Q E (hr.deeper _) hsp
  have I : Inv (cxOf CX P w K mg base N qual scope f cdv A outer s H E) [] (start N vs) H s1 := inv_start S hr.hd e0 hl r x
  refine wpAny_mono (ht [] s1 (start N vs) H _ I hq) (fun fl s' hs => ?_) fun e s' hs => hs
  have fin : ∀ {σ' : St} {H' : Hp} {v : V} {u : Value}, Inv (cxOf CX P w K mg base N qual scope f cdv A outer s H E) [] σ' H' s' → RelV v u → Q v H' → CE outer P w H s Q u s' :=
    fun {σ' H' v u} J rv q => ⟨v, H', J.os, J.bare, J.base, J.hok, rv, q⟩
  cases fl with
  | ret u =>
    obtain ⟨v, σ', H', J, rv, q⟩ := hs
    exact fin J rv q
  | next =>
    obtain ⟨σ', H', J, q⟩ := hs
    exact fin (v := V.non) (u := Value.none) J rfl q
  | brk =>
    obtain ⟨_, _, _, q⟩ := hs
    exact False.elim q
  | cont =>
    obtain ⟨_, _, _, q⟩ := hs
    exact False.elim q
end L2
namespace L2
open PySem PySem.Spec PyProof.Rows
section
variable {X : Cx} {x : Str} {p pos : Pos} {e : Expr} {es : List Expr} {t : TA} {id T : String} {r : List V → Hp → VK → Prop}
def tCB (r : List V → Hp → VK → Prop) (t : TA) : TE := fun σ H Q => t σ H fun vs H1 => r vs H1 Q
theorem pe_callB (hc : CallR X (.builtin id) r) (hg : Gl X x) (hm : X.mg x = none) (hv : bootBuiltins x = some (.builtin id)) (ha : PA X (e :: es) t) (hn : x ≠ "__name__" := by decide) (hdb : (x == ("__debug__" : Str)) = false := by decide)
    (he : starEach (e :: es) X.env = (false, eval e X.env) :: starEach es X.env := by rfl) (hpl : (backTo pos (starEach es X.env)).any (·.1) = false := by rfl) : PE X (.Call (.Name x p) (e :: es) [] pos) (tCB r t) := by
  intro pins s σ H Q I h
  refine wpAny_Call_Name_kw (ld_blt I hg hm hv ?_ hn hdb)
  exact PyProof.Rows.callWith_builtin1 (thn (ha pos pins s σ H _ I h) fun us s1 ⟨vs, H1, I1, r1, q1⟩ => hc pins s1 σ H1 vs us Q I1 r1 q1) he hpl
theorem pe_callTy (hc : CallR X (.type T) r) (hg : Gl X x) (hm : X.mg x = none) (hv : bootBuiltins x = some (.type T)) (ha : PA X (e :: es) t) (hn : x ≠ "__name__" := by decide) (hdb : (x == ("__debug__" : Str)) = false := by decide)
    (he : starEach (e :: es) X.env = (false, eval e X.env) :: starEach es X.env := by rfl) (hpl : (backTo pos (starEach es X.env)).any (·.1) = false := by rfl) : PE X (.Call (.Name x p) (e :: es) [] pos) (tCB r t) := by
  intro pins s σ H Q I h
  refine wpAny_Call_Name_kw (ld_blt I hg hm hv ?_ hn hdb)
  exact PyProof.Rows.callWith_type1 (thn (ha pos pins s σ H _ I h) fun us s1 ⟨vs, H1, I1, r1, q1⟩ => hc pins s1 σ H1 vs us Q I1 r1 q1) he hpl
end
end L2
namespace HT
open PySem PyProof.Rows
section
open PySem.SeqAt
open PySem.AutoSeq1 (wpAny_loadPart')
open PySem.MeetsSeq PySem.MeetsSeq2 PySem.MeetsSeq3
end
section
variable {prog : Program} {w : World} {A : Around} {E : Value → Shared → Prop} {s : Shared}
end
end HT
namespace L2
open PySem PySem.Spec PyProof.Rows
section
variable {X : Cx} {e : Expr} {te : TE} {lo hi : Option Expr} {tl th : TO} {pos p2 : Pos}
end
end L2
namespace L2
open PySem PySem.Spec PyProof.Rows
def ixN (n : Nat) (i : Int) : Option Nat := if 0 ≤ i then (if i < n then some i.toNat else none) else if -(n : Int) ≤ i then some (i + n).toNat else none
def atI {α : Type} (xs : List α) (i : Int) : Option α := (ixN xs.length i).bind fun j => xs[j]?
theorem ixN_seq {n : Nat} {i : Int} {j : Nat} (h : ixN n i = some j) : seqIndex? i n = some j ∧ j < n ∧ -(n : Int) ≤ i ∧ i < n := by
  unfold ixN at h
  by_cases h0 : 0 ≤ i
  · rw [if_pos h0] at h
    by_cases h1 : i < n
    · rw [if_pos h1] at h
      have e : i.toNat = j := Option.some.inj h
      exact ⟨by rw [seqIndex_of h0 h1, e], by omega, by omega, h1⟩
    · rw [if_neg h1] at h; cases h
  · rw [if_neg h0] at h
    by_cases h1 : -(n : Int) ≤ i
    · rw [if_pos h1] at h
      have e : (i + n).toNat = j := Option.some.inj h
      exact ⟨by rw [seqIndex_neg (by omega) h1, e], by omega, h1, by omega⟩
    · rw [if_neg h1] at h; cases h
theorem atI_get {α : Type} {xs : List α} {i : Int} {v : α} (h : atI xs i = some v) : ∃ j, seqIndex? i xs.length = some j ∧ xs[j]? = some v ∧ j < xs.length ∧ -(xs.length : Int) ≤ i ∧ i < xs.length := by
  unfold atI at h
  cases e : ixN xs.length i with
  | none => rw [e] at h; cases h
  | some j =>
    rw [e] at h
    obtain ⟨h1, h2, h3, h4⟩ := ixN_seq e
    exact ⟨j, h1, h, h2, h3, h4⟩
theorem atI_nat {α : Type} {xs : List α} {j : Nat} {v : α} (h : xs[j]? = some v) : atI xs (j : Int) = some v := by
  have hj : j < xs.length := (List.getElem?_eq_some_iff.mp h).1
  have e : ixN xs.length (j : Int) = some j := by
    unfold ixN
    rw [if_pos (by omega), if_pos (by omega)]; simp
  unfold atI; rw [e]; exact h
def PlainIx (b : Expr) : Prop := ∀ o i, subscripted b false o i = operate [o, i] (getItem o i)
def IxR (X : Cx) (r : R2) : Prop :=
  ∀ (value slice : Expr) (pins : List (Addr × Obj)) (s : Shared) (σ : St) (H : Hp) (x y : V) (v u : Value) (Q : VK), Inv X pins σ H s → RelV x v → RelV y u → r x y H Q →
    subscripted slice false v u = operate [v, u] (getItem v u) → wpAny (model X.prog X.w) X.A (subscriptTail value slice v u) (EP X pins σ Q) X.xe s
def MtR (X : Cx) (id : String) (r : V → List V → Hp → VK → Prop) : Prop :=
  ∀ (pins : List (Addr × Obj)) (s : Shared) (σ : St) (H : Hp) (x : V) (xs : List V) (v : Value) (us : List Value) (Q : VK), Inv X pins σ H s → RelV x v → Vals xs us → r x xs H Q →
    wpAny (model X.prog X.w) X.A (call (.builtin id) (v :: us)) (EP X pins σ Q) X.xe s
section
variable {X : Cx} {a b : Expr} {ta tb : TE} {pos : Pos}
theorem pe_ix {r : R2} (hr : IxR X r) (ha : PE X a ta) (hb : PE X b tb) (hs : PlainIx b) : PE X (.Subscript a b pos) (tOp r ta tb) := by
  intro pins s σ H Q I h
  exact Subscript_ (binT ha hb I h fun v u s2 x y H2 I2 rx ry q => hr a b pins s2 σ H2 x y v u Q I2 rx ry q (hs _ _))
def rIxL (K : PySem.W.Frag) : R2 := fun x y H Q => ∃ p xs i v, x = .ref p ∧ y = .int i ∧ SqL K H p xs ∧ atI xs i = some v ∧ Q v H
def rIxT (K : PySem.W.Frag) : R2 := fun x y H Q => ∃ p xs i v, x = .ref p ∧ y = .int i ∧ SqT K H p xs ∧ atI xs i = some v ∧ Q v H
theorem ix_list : IxR X (rIxL X.K) := by
  intro value slice pins s σ H x y v u Q I rx ry h hs
  obtain ⟨p, xs, i, z, rfl, rfl, hq, he, q⟩ := h
  cases rx
  obtain ⟨t, rfl⟩ := ry
  obtain ⟨its, r, pl, hz⟩ := I.list hq
  obtain ⟨j, h1, h2, h3, h4, h5⟩ := atI_get he
  obtain ⟨w, ew, rw'⟩ := r.get h2
  have hl := r.length
  have hn := line63
  have fin : EP X pins σ Q w s := ⟨z, H, I, rw', q⟩
  by_cases h0 : 0 ≤ i
  · have hj : i.toNat = j := by
      rw [seqIndex_of h0 h5] at h1
      exact Option.some.inj h1
    exact item_listR pl.isList h0 (by omega) (by rw [hj]; simpa using ew) fin hs
  · have hj : (i + (its.toArray.size : Int)).toNat = j := by
      rw [seqIndex_neg (by omega) h4] at h1
      rw [List.size_toArray, ← hl]
      exact Option.some.inj h1
    exact subscriptTail_builtinR (x := w) pl.isList.typeIs slot_list_getitem.lookup
      (wpAny_getItem_list_neg (Q := fun r s' => r = w ∧ EP X pins σ Q r s') pl.isList (by omega) (by rw [List.size_toArray] <;> omega) (by omega) (by rw [hj]; simpa using ew) ⟨rfl, fin⟩) hs
theorem ix_tup : IxR X (rIxT X.K) := by
  intro value slice pins s σ H x y v u Q I rx ry h hs
  obtain ⟨p, xs, i, z, rfl, rfl, hq, he, q⟩ := h
  cases rx
  obtain ⟨t, rfl⟩ := ry
  obtain ⟨its, r, pl, hz⟩ := I.tuple hq
  obtain ⟨j, h1, h2, h3, h4, h5⟩ := atI_get he
  obtain ⟨w, ew, rw'⟩ := r.get h2
  have hl := r.length
  have hn := line63
  have fin : EP X pins σ Q w s := ⟨z, H, I, rw', q⟩
  exact subscriptTail_builtinR (x := w) pl.typeIs slot_tuple_getitem.lookup
    (getItem_tuple (j := j) (Q := fun r s' => r = w ∧ EP X pins σ Q r s') pl (by omega) (by omega) (by rw [List.size_toArray, ← hl]; exact h1) (by simpa using ew) ⟨rfl, fin⟩) hs
theorem mapSeq_set (its : List Value) (n j : Nat) (u : Value) : Obj.mapSeq (·.setIfInBounds j u) { cls := .type "list", data := .seq its.toArray n } = { cls := .type "list", data := .seq (its.set j u).toArray n } := by
  simp [Obj.mapSeq]
theorem Inv.lst {pins : List (Addr × Obj)} {σ : St} {H : Hp} {s : Shared} {p : Addr} {xs : List V} (I : Inv X pins σ H s) (h : H p = some (.lst xs)) :
    ∃ (its : List Value) (n : Nat), Vals xs its ∧ s.heap.get? p = some { cls := .type "list", data := .seq its.toArray n } ∧ xs.length ≤ sizeLine := by
  obtain ⟨z, its, n, r, e⟩ := I.hok p _ h
  exact ⟨its, n, r, e, z⟩
theorem Inv.lstUpd {pins : List (Addr × Obj)} {σ : St} {H : Hp} {s : Shared} {p : Addr} {xs ys : List V} {its its' : List Value} {n n' : Nat} {f : Obj → Obj} (I : Inv X pins σ H s) (h : H p = some (.lst xs))
    (ho : s.heap.get? p = some { cls := .type "list", data := .seq its.toArray n }) (hf : f { cls := .type "list", data := .seq its.toArray n } = { cls := .type "list", data := .seq its'.toArray n' }) (r : Vals ys its') (hz : ys.length ≤ sizeLine) (t : Nat) :
    Inv X pins σ (upd H p (.lst ys)) { s with heap := s.heap.update p f, toks := t } := by
  have e : (s.heap.update p f).get? p = some { cls := .type "list", data := .seq its'.toArray n' } := by
    rw [Heap.get?_update_self f ho (by rw [hf] <;> rfl), hf]
  refine I.write (x := p) (e := p) (by rw [h]; trivial) (.inl rfl) (fun b u hb q => (Heap.get?_update_other _ _ (Ne.symm hb)).trans q) ⟨_, e⟩ ?_
  exact ⟨hz, its', n', r, e⟩
def rSetL : V → V → V → Hp → (Hp → Prop) → Prop := fun o i v H Q => ∃ p xs k j, o = .ref p ∧ i = .int k ∧ H p = some (.lst xs) ∧ ixN xs.length k = some j ∧ Q (upd H p (.lst (xs.set j v)))
theorem set_list : PSet X rSetL := by
  intro pins s σ H o i v ov iv u Q I ro ri rv h
  obtain ⟨p, xs, k, j, rfl, rfl, hp, hj, q⟩ := h
  cases ro
  obtain ⟨t, rfl⟩ := ri
  obtain ⟨its, n, r, ho, hz⟩ := I.lst hp
  obtain ⟨h1, h2, h3, h4⟩ := ixN_seq hj
  have hl := r.length
  have hn := line63
  have I' : Inv X pins σ (upd H p (.lst (xs.set j v))) { s with heap := s.heap.update p (Obj.mapSeq (·.setIfInBounds j u)) } :=
    I.lstUpd hp ho (mapSeq_set its n j u) (r.set rv j) (by rw [List.length_set]; exact hz) s.toks
  by_cases h0 : 0 ≤ k
  · have hk : k.toNat = j := by
      rw [seqIndex_of h0 h4] at h1
      exact Option.some.inj h1
    exact PySem.W.ki_setAt ho h0 (by omega) (by rw [List.size_toArray, ← hl]; exact h4) (by rw [hk]; exact ⟨_, I', q⟩)
  · have hk : (k + (its.toArray.size : Int)).toNat = j := by
      rw [seqIndex_neg (by omega) h3] at h1
      rw [List.size_toArray, ← hl]
      exact Option.some.inj h1
    exact PySem.W.ki_setBack ho (by omega) (by rw [List.size_toArray, ← hl]; exact h3) (by omega) (by rw [hk]; exact ⟨_, I', q⟩)
def flatV : V → Bool
  | .non => true
  | .bl _ => true
  | .int _ => true
  | .str _ => true
  | _ => false
def eqV : V → V → Bool
  | .non, .non => true
  | .bl a, .bl b => a == b
  | .bl a, .int b => (if a then 1 else 0) == b
  | .int a, .bl b => a == (if b then 1 else 0)
  | .int a, .int b => a == b
  | .str a, .str b => a == b
  | _, _ => false
theorem eqAt_V {A : Around} {s : Shared} {y x : V} {u v : Value} (ry : RelV y u) (rx : RelV x v) (fy : flatV y = true) (fx : flatV x = true) : SeqAt.EqAt A s u v (eqV y x) := by
  cases y with
  | non =>
    cases ry
    cases x with
    | non => cases rx; exact SeqAt.EqAt.same _
    | bl b => cases rx; exact SeqAt.EqAt.none_bool b
    | int b => obtain ⟨t, rfl⟩ := rx; exact SeqAt.EqAt.none_int b t
    | str b => obtain ⟨t, rfl⟩ := rx; exact SeqAt.EqAt.none_str b t
    | _ => exact absurd (show false = true from fx) Bool.false_ne_true
  | bl a =>
    cases ry
    cases x with
    | non => cases rx; exact SeqAt.EqAt.bool_none a
    | bl b => cases rx; exact SeqAt.EqAt.bool_bool a b
    | int b => obtain ⟨t, rfl⟩ := rx; exact SeqAt.EqAt.bool_int a b t
    | str b => obtain ⟨t, rfl⟩ := rx; exact SeqAt.EqAt.bool_str a b t
    | _ => exact absurd (show false = true from fx) Bool.false_ne_true
  | int a =>
    obtain ⟨t', rfl⟩ := ry
    cases x with
    | non => cases rx; exact SeqAt.EqAt.int_none a t'
    | bl b => cases rx; exact SeqAt.EqAt.int_bool a t' b
    | int b => obtain ⟨t, rfl⟩ := rx; exact SeqAt.EqAt.int_int a t' b t
    | str b => obtain ⟨t, rfl⟩ := rx; exact SeqAt.EqAt.int_str a t' b t
    | _ => exact absurd (show false = true from fx) Bool.false_ne_true
  | str a =>
    obtain ⟨t', rfl⟩ := ry
    cases x with
    | non => cases rx; exact SeqAt.EqAt.str_none a t'
    | bl b => cases rx; exact SeqAt.EqAt.str_bool a t' b
    | int b => obtain ⟨t, rfl⟩ := rx; exact SeqAt.EqAt.str_int a t' b t
    | str b => obtain ⟨t, rfl⟩ := rx; exact SeqAt.EqAt.str_str a t' b t
    | _ => exact absurd (show false = true from fx) Bool.false_ne_true
  | _ => exact absurd (show false = true from fy) Bool.false_ne_true
def eqU (x : V) (u : Value) : Bool := match u with
  | .none => eqV .non x
  | .bool b => eqV (.bl b) x
  | .int i _ => eqV (.int i) x
  | .str z _ => eqV (.str z) x
  | _ => false
theorem eqU_of {x y : V} {u : Value} (r : RelV y u) (f : flatV y = true) : eqU x u = eqV y x := by
  cases y with
  | non => cases r; rfl
  | bl b => cases r; rfl
  | int i => obtain ⟨t, rfl⟩ := r; rfl
  | str z => obtain ⟨t, rfl⟩ := r; rfl
  | _ => exact absurd (show false = true from f) Bool.false_ne_true
theorem any_eqU {x : V} : ∀ {xs : List V} {us : List Value}, Vals xs us → xs.all flatV = true → us.any (eqU x) = xs.any fun y => eqV y x
  | _, _, .nil, _ => rfl
  | y :: xs, u :: us, .cons r t, f => by
    rw [List.all_cons, Bool.and_eq_true] at f
    rw [List.any_cons, List.any_cons, eqU_of r f.1, any_eqU t f.2]
theorem mem_eqAt {A : Around} {s : Shared} {x : V} {v : Value} (rx : RelV x v) (fx : flatV x = true) : ∀ {xs : List V} {us : List Value}, Vals xs us → xs.all flatV = true → ∀ u ∈ us, SeqAt.EqAt A s u v (eqU x u)
  | _, _, .nil, _ => fun u hu => by cases hu
  | y :: xs, u :: us, .cons r t, f => fun u' hu => by
    rw [List.all_cons, Bool.and_eq_true] at f
    rcases List.mem_cons.mp hu with rfl | hu
    · rw [eqU_of r f.1]; exact eqAt_V r rx f.1 fx
    · exact mem_eqAt rx fx t f.2 u' hu
def inV (x : V) (xs : List V) : Bool := xs.any fun y => eqV y x
def rIn (K : PySem.W.Frag) (neg : Bool) : R2 := fun x y H Q => ∃ p xs, y = .ref p ∧ (SqL K H p xs ∨ SqT K H p xs) ∧ flatV x = true ∧ xs.all flatV = true ∧ Q (.bl (if neg then !inV x xs else inV x xs)) H
theorem op_in_seq : OpR X (compareOp .In) (rIn X.K false) := by
  intro pins s σ H x y v u Q I rx ry h
  obtain ⟨p, xs, rfl, hq, fx, fs, q⟩ := h
  cases ry
  rcases hq with hq | hq
  · obtain ⟨its, r, pl, hz⟩ := I.list hq
    refine SeqAt.in_listAt (eqU x) pl.isList (fun w hw => mem_eqAt rx fx r fs w (by simpa using hw)) ⟨.bl _, H, I, rfl, ?_⟩
    rw [show its.toArray.any (eqU x) = its.any (eqU x) by simp, any_eqU r fs]
    exact q
  · obtain ⟨its, r, pl, hz⟩ := I.tuple hq
    refine SeqAt.in_tupleAt (eqU x) pl (fun w hw => mem_eqAt rx fx r fs w (by simpa using hw)) ⟨.bl _, H, I, rfl, ?_⟩
    rw [show its.toArray.any (eqU x) = its.any (eqU x) by simp, any_eqU r fs]
    exact q
theorem op_notIn_seq : OpR X (compareOp .NotIn) (rIn X.K true) := by
  intro pins s σ H x y v u Q I rx ry h
  obtain ⟨p, xs, rfl, hq, fx, fs, q⟩ := h
  cases ry
  rcases hq with hq | hq
  · obtain ⟨its, r, pl, hz⟩ := I.list hq
    refine SeqAt.notIn_listAt (eqU x) pl.isList (fun w hw => mem_eqAt rx fx r fs w (by simpa using hw)) ⟨.bl _, H, I, rfl, ?_⟩
    rw [show its.toArray.any (eqU x) = its.any (eqU x) by simp, any_eqU r fs]
    exact q
  · obtain ⟨its, r, pl, hz⟩ := I.tuple hq
    refine SeqAt.notIn_tupleAt (eqU x) pl (fun w hw => mem_eqAt rx fx r fs w (by simpa using hw)) ⟨.bl _, H, I, rfl, ?_⟩
    rw [show its.toArray.any (eqU x) = its.any (eqU x) by simp, any_eqU r fs]
    exact q
theorem call_len_seq : CallR X (.builtin "len") (fun xs H Q => ∃ p ys, xs = [.ref p] ∧ (SqL X.K H p ys ∨ SqT X.K H p ys) ∧ Q (.int ys.length) H) := by
  intro pins s σ H xs us Q I r h
  obtain ⟨p, ys, rfl, hq, q⟩ := h
  obtain ⟨u, rfl, rx⟩ := vals1 r
  cases rx
  have hn := line63
  rcases hq with hq | hq
  · obtain ⟨its, r', pl, hz⟩ := I.list hq
    have hlen := r'.length
    exact Calls.call_len_list pl.isList (by simp only [List.size_toArray] <;> omega) ⟨.int ys.length, H, I.tok _, ⟨s.toks + 1, by rw [List.size_toArray, hlen]⟩, q⟩
  · obtain ⟨its, r', pl, hz⟩ := I.tuple hq
    have hlen := r'.length
    exact len_tuple pl (by simp only [List.size_toArray] <;> omega) ⟨.int ys.length, H, I.tok _, ⟨s.toks + 1, by rw [List.size_toArray, hlen]⟩, q⟩
theorem call_list_of : CallR X (.type "list") (fun xs H Q => ∃ p ys, xs = [.ref p] ∧ (SqL X.K H p ys ∨ SqT X.K H p ys) ∧ ∀ l, H l = none → Q (.ref l) (upd H l (.lst ys))) := by
  intro pins s σ H xs us Q I r h
  obtain ⟨p, ys, rfl, hq, q⟩ := h
  obtain ⟨u, rfl, rx⟩ := vals1 r
  cases rx
  have fin : ∀ (its : List Value), Vals ys its → ys.length ≤ sizeLine → ∀ (h' : Heap) (c' : Nat), (∀ b o', s.heap.get? b = some o' → h'.get? b = some o') →
      h'.get? s.heap.objs.size = some { cls := .type "list", dict := none, data := .seq its.toArray c', slots := #[] } → EP X pins σ Q (.ref s.heap.objs.size) { s with heap := h' } := fun its r' hz h' c' kp e =>
    ⟨.ref s.heap.objs.size, _, I.laid (t' := s.toks) kp (Nat.le_refl _) (show ObjOk X.prog X.w _ h' _ (.lst ys) from ⟨hz, its, c', r', e⟩), rfl, q _ (I.hok.fresh (Nat.le_refl _))⟩
  rcases hq with hq | hq
  · obtain ⟨its, r', pl, hz⟩ := I.list hq
    have hlen := r'.length
    obtain ⟨o, ho, hc, n, hd⟩ := pl.isList
    exact call_list_seq p (.inl rfl) ho hc hd (fun h' c' kp e => fin its r' hz h' c' kp e) (by simp only [List.size_toArray] <;> omega)
  · obtain ⟨its, r', pl, hz⟩ := I.tuple hq
    have hlen := r'.length
    obtain ⟨o, ho, hc, n, hd⟩ := pl
    exact call_list_seq p (.inr rfl) ho hc hd (fun h' c' kp e => fin its r' hz h' c' kp e) (by simp only [List.size_toArray] <;> omega)
def tyV (K : PySem.W.Frag) (T : String) (x : V) (H : Hp) : Prop := match x with
  | .str _ => T = "str"
  | .int _ => T = "int"
  | .ref p => (T = "list" ∧ ∃ xs, SqL K H p xs) ∨ (T = "tuple" ∧ ∃ o, K.lookup p = some o ∧ o.cls = .type "tuple" ∧ o.dict = none) ∨
      (T = "dict" ∧ ((∃ kvs, H p = some (.dK kvs)) ∨ ∃ kvs, H p = some (.dT kvs))) ∨ (T = "set" ∧ ∃ S n, H p = some (.set S n))
  | _ => False
theorem tyV_is {pins : List (Addr × Obj)} {σ : St} {H : Hp} {s : Shared} {T : String} {x : V} {v : Value} (I : Inv X pins σ H s) (r : RelV x v) (ty : tyV X.K T x H) :
    s.TypeIs v T ∧ ∀ a, v = .ref a → ∃ ob, s.heap.get? a = some ob ∧ ob.dict = none := by
  cases x with
  | str z =>
    obtain ⟨t, rfl⟩ := r
    cases (show T = "str" from ty)
    exact ⟨typeIs_str s z t, fun _ e => nomatch e⟩
  | int i =>
    obtain ⟨t, rfl⟩ := r
    cases (show T = "int" from ty)
    exact ⟨typeIs_int s i t, fun _ e => nomatch e⟩
  | ref p =>
    cases r
    rcases ty with ⟨rfl, xs, hq⟩ | ⟨rfl, o, hk, hc, hd⟩ | ⟨rfl, hk⟩ | ⟨rfl, S, n, hk⟩
    · obtain ⟨its, _, pl, _⟩ := I.list hq
      refine ⟨pl.isList.typeIs, fun a e => ?_⟩
      cases e
      obtain ⟨o, n, e, c, hd, _⟩ := pl
      exact ⟨o, e, hd⟩
    · refine ⟨⟨o, I.kIn p o hk, hc⟩, fun a e => ?_⟩
      cases e
      exact ⟨o, I.kIn _ o hk, hd⟩
    · have z : ∃ o, s.heap.get? p = some o ∧ o.ExactDict := by
        rcases hk with ⟨kvs, hk⟩ | ⟨kvs, hk⟩
        · obtain ⟨_, _, _, _, o, _, _, e, ex, _⟩ := I.hok p _ hk
          exact ⟨o, e, ex⟩
        · obtain ⟨_, _, _, _, o, _, _, e, ex, _⟩ := I.hok p _ hk
          exact ⟨o, e, ex⟩
      obtain ⟨o, e, ex⟩ := z
      refine ⟨⟨o, e, ex.1⟩, fun a e2 => ?_⟩
      cases e2
      exact ⟨o, e, ex.2.1⟩
    · obtain ⟨o, _, _, _, e, ex, _⟩ := I.hok p _ hk
      refine ⟨⟨o, e, ex.1⟩, fun a e2 => ?_⟩
      cases e2
      exact ⟨o, e, ex.2.1⟩
  | _ => exact False.elim ty
def tBM0 (K : PySem.W.Frag) (T : String) (r : V → List V → Hp → VK → Prop) (to : TE) : TE := fun σ H Q => to σ H fun x H1 => tyV K T x H1 ∧ r x [] H1 Q
def tBM (K : PySem.W.Frag) (T : String) (r : V → List V → Hp → VK → Prop) (to : TE) (t : TA) : TE := fun σ H Q => to σ H fun x H1 => tyV K T x H1 ∧ t σ H1 fun xs H2 => r x xs H2 Q
variable {o e : Expr} {es : List Expr} {to : TE} {t : TA} {name : Str} {apos cpos : Pos} {T id : String} {r : V → List V → Hp → VK → Prop}
theorem pe_bm0 (pa : PlainAttrs T) (slot : Slot T name id) (hty : typeOf (.builtin id) = pure (.type "method_descriptor")) (hm : MtR X id r) (ho : PE X o to)
    (hbase : attributeBase o name X.env (eval o X.env) = eval o X.env := by rfl) (hline : (apos.endLine == cpos.line) = true := by rfl) : PE X (.Call (.Attribute o name apos) [] [] cpos) (tBM0 X.K T r to) := by
  intro pins s σ H Q I h
  refine wpAny_Call_method0_late hbase hline (thn (ho pins s σ H _ I h) fun v s1 ⟨x, H1, I1, r1, ty, q1⟩ => ?_)
  obtain ⟨h1, h2⟩ := tyV_is I1 r1 ty
  exact ⟨T, id, pa, slot, hty, h1, h2, Calls.callWith_builtin rfl (PySem.evalArgs_none (hm pins s1 σ H1 x [] v [] Q I1 r1 .nil q1))⟩
theorem pe_bm (pa : PlainAttrs T) (slot : Slot T name id) (hty : typeOf (.builtin id) = pure (.type "method_descriptor")) (hm : MtR X id r) (ho : PE X o to) (ha : PA X (e :: es) t)
    (hbase : attributeBase o name X.env (eval o X.env) = eval o X.env := by rfl)
    (hfew : ((backTo cpos (starEach (e :: es) X.env)).all (fun x => !x.1) && (backToKw cpos (keywordEach [] X.env)).all (fun x => x.1.isSome)
      && decide ((e :: es).length + ([] : List Keyword).length + (if ([] : List Keyword).isEmpty then 0 else 1) < 30)) = true := by rfl)
    (hline : (apos.endLine == cpos.line) = true := by rfl) (hs : starEach (e :: es) X.env = (false, eval e X.env) :: starEach es X.env := by rfl) (hplain : (backTo cpos (starEach es X.env)).any (·.1) = false := by rfl) :
    PE X (.Call (.Attribute o name apos) (e :: es) [] cpos) (tBM X.K T r to t) := by
  intro pins s σ H Q I h
  refine wpAny_Call_method_late hbase hfew hline rfl (thn (ho pins s σ H _ I h) fun v s1 ⟨x, H1, I1, r1, ty, q1⟩ => ?_)
  obtain ⟨h1, h2⟩ := tyV_is I1 r1 ty
  refine ⟨T, id, pa, slot, hty, h1, h2, ?_⟩
  have hA := ha cpos pins s1 σ H1 _ I1 q1
  rw [hs] at hA ⊢
  refine Calls.callWith_builtin (by show (false || (backTo cpos (starEach es X.env)).any (·.1)) = false; rw [hplain] <;> rfl) (Calls.evalArgs_plain ?_)
  exact thn hA fun us s2 ⟨vs, H2, I2, r2, q2⟩ => hm pins s2 σ H2 x vs v us Q I2 r1 r2 q2
end
end L2
namespace L2
open PySem PySem.Spec PyProof.Rows
def MtM (X : Cx) (id : String) (r : V → List V → Hp → VK → Prop) : Prop :=
  ∀ (pins : List (Addr × Obj)) (s : Shared) (σ : St) (H : Hp) (x : V) (xs : List V) (v : Value) (us : List Value) (Q : VK), Inv X pins σ H s → RelV x v → Vals xs us → r x xs H Q →
    wpAny (model X.prog X.w) X.A (call (.builtin id) (v :: us)) (EP X pins σ Q) X.xe s
theorem Vals.one : ∀ {x : V} {us : List Value}, Vals [x] us → ∃ u, us = [u] ∧ RelV x u
  | _, _, .cons r .nil => ⟨_, rfl, r⟩
theorem Vals.two : ∀ {x y : V} {us : List Value}, Vals [x, y] us → ∃ u v, us = [u, v] ∧ RelV x u ∧ RelV y v
  | _, _, _, .cons r (.cons q .nil) => ⟨_, _, rfl, r, q⟩
theorem Vals.zero : ∀ {us : List Value}, Vals [] us → us = []
  | _, .nil => rfl
theorem Vals.rep {xs : List V} {us : List Value} (h : Vals xs us) : ∀ k : Nat, Vals (List.replicate k xs).flatten (List.replicate k us).flatten
  | 0 => .nil
  | k + 1 => by
    rw [List.replicate_succ, List.replicate_succ, List.flatten_cons, List.flatten_cons]
    exact Vals.append h (Vals.rep h k)
theorem foldl_rep (its : List Value) : ∀ (k : Nat) (acc : List Value),
    List.foldl (fun x1 x2 => x1 ++ x2) acc.toArray (List.replicate k its.toArray) = (acc ++ (List.replicate k its).flatten).toArray
  | 0, acc => by simp
  | k + 1, acc => by
    have e : acc.toArray ++ its.toArray = (acc ++ its).toArray := by simp
    have e2 : (acc ++ its) ++ (List.replicate k its).flatten = acc ++ (List.replicate (k + 1) its).flatten := by
      rw [List.replicate_succ, List.flatten_cons, List.append_assoc]
    rw [← e2, ← foldl_rep its k (acc ++ its), ← e, List.replicate_succ, List.foldl_cons]
section
variable {X : Cx} {pins : List (Addr × Obj)} {σ : St} {H : Hp} {s : Shared} {l b : Addr} {xs ys zs : List V}
theorem Inv.lset {its its' : List Value} {n : Nat} {f : Array Value → Array Value} {t' : Nat} (I : Inv X pins σ H s) (hH : H l = some (.lst xs))
    (e : s.heap.get? l = some { cls := .type "list", data := .seq its.toArray n }) (hf : f its.toArray = its'.toArray) (hv : Vals ys its') (hz : ys.length ≤ sizeLine) :
    Inv X pins σ (upd H l (.lst ys)) { s with heap := s.heap.update l (Obj.mapSeq f), toks := t' } := by
  have q := PySem.IsL.update e f
  rw [hf] at q
  refine I.write (x := l) (e := l) (by rw [hH]; exact trivial) (.inl rfl) (fun b' u hb hu => (Heap.get?_update_other s.heap (Obj.mapSeq f) (Ne.symm hb)).trans hu) ⟨_, q⟩ ?_
  exact ⟨hz, its', _, hv, q⟩
theorem Inv.lnew {its : List Value} {t' : Nat} (I : Inv X pins σ H s) (hv : Vals ys its) (hz : ys.length ≤ sizeLine) :
    Inv X pins σ (upd H s.heap.objs.size (.lst ys)) { s with heap := s.heap.push { cls := .type "list", data := .seq its.toArray }, toks := t' } :=
  I.laid (fun _ _ q => Heap.get?_push_of_some _ q) (Nat.le_refl _) ⟨hz, its, 0, hv, Heap.get?_push_size _ rfl⟩
theorem Inv.fresh (I : Inv X pins σ H s) : H s.heap.objs.size = none := I.hok.fresh (Nat.le_refl _)
theorem Inv.lstM (I : Inv X pins σ H s) (hH : H l = some (.lst xs)) : xs.length ≤ sizeLine ∧ ∃ (its : List Value) (n : Nat), Vals xs its ∧ xs.length = its.length ∧ s.heap.get? l = some { cls := .type "list", data := .seq its.toArray n } := by
  obtain ⟨z, its, n, r, e⟩ := I.hok l _ hH
  exact ⟨z, its, n, r, r.length, e⟩
theorem notLongL {n : Nat} (h : n ≤ sizeLine) : Builtin.List.listTooLong n = false := by
  unfold Builtin.List.listTooLong
  exact decide_eq_false (by omega)
end
section
variable {X : Cx}
def rAppend : V → List V → Hp → VK → Prop := fun x vs H Q => ∃ l xs y, x = .ref l ∧ vs = [y] ∧ H l = some (.lst xs) ∧ xs.length < sizeLine ∧ Q .non (upd H l (.lst (xs ++ [y])))
theorem mt_append : MtM X "list.append" rAppend := by
  intro pins s σ H x vs v us Q I rx rv h
  obtain ⟨l, xs, y, rfl, rfl, hH, hz, q⟩ := h
  cases rx
  obtain ⟨u, rfl, ru⟩ := rv.one
  obtain ⟨z, its, n, r, hl, e⟩ := I.lstM hH
  refine call_meets F.slot_list_append ⟨_, e, rfl⟩ F.entry_list_append (F.args_list_append_2 _ _) (PySem.list_append l its.toArray n u (by rw [List.size_toArray]; omega)) ⟨e, ?_⟩
  refine ⟨.non, _, I.lset (its' := its ++ [u]) hH e (by simp) (r.append (.cons ru .nil)) ?_, rfl, q⟩
  rw [List.length_append, List.length_singleton]
  omega
def rClear : V → List V → Hp → VK → Prop := fun x vs H Q => ∃ l xs, x = .ref l ∧ vs = [] ∧ H l = some (.lst xs) ∧ Q .non (upd H l (.lst []))
theorem mt_clear : MtM X "list.clear" rClear := by
  intro pins s σ H x vs v us Q I rx rv h
  obtain ⟨l, xs, rfl, rfl, hH, q⟩ := h
  cases rx
  have hus := rv.zero
  subst hus
  obtain ⟨z, its, n, r, hl, e⟩ := I.lstM hH
  refine call_meets F.slot_list_clear ⟨_, e, rfl⟩ F.entry_list_clear (F.args_list_clear_1 _) (AutoSeq1.list_clear_list_0 l its.toArray n (by rw [List.size_toArray]; omega)) ⟨e, ?_⟩
  exact ⟨.non, _, I.lset (its' := []) (ys := []) hH e rfl .nil (Nat.zero_le _), rfl, q⟩
def rCat : R2 := fun x y H Q => ∃ l b xs zs, x = .ref l ∧ y = .ref b ∧ H l = some (.lst xs) ∧ H b = some (.lst zs) ∧ xs.length + zs.length ≤ sizeLine ∧ ∀ p, H p = none → Q (.ref p) (upd H p (.lst (xs ++ zs)))
theorem op_cat : OpR X (binaryOp .Add) rCat := by
  intro pins s σ H x y v u Q I rx ry h
  obtain ⟨l, b, xs, zs, rfl, rfl, hH, hB, hz, q⟩ := h
  cases rx
  cases ry
  obtain ⟨z, its, n, r, hl, e⟩ := I.lstM hH
  obtain ⟨z2, its2, n2, r2, hl2, e2⟩ := I.lstM hB
  refine PySem.P.add_list e e2 ?_ (by rw [List.size_toArray, List.size_toArray]; omega)
  have ea : its.toArray ++ its2.toArray = (its ++ its2).toArray := by simp
  rw [ea]
  exact ⟨.ref _, _, I.lnew (t' := s.toks) (r.append r2) (by rw [List.length_append]; omega), rfl, q _ I.fresh⟩
def rRep : R2 := fun x y H Q => ∃ l k xs, x = .ref l ∧ y = .int k ∧ H l = some (.lst xs) ∧ -(2 ^ 63) ≤ k ∧ k < 2 ^ 63 ∧ xs.length * k.toNat ≤ sizeLine ∧
  ∀ p, H p = none → Q (.ref p) (upd H p (.lst (List.replicate k.toNat xs).flatten))
theorem len_rep {α : Type} (xs : List α) (k : Nat) : (List.replicate k xs).flatten.length = k * xs.length := by
  induction k with
  | zero => simp
  | succ k ih => rw [List.replicate_succ, List.flatten_cons, List.length_append, ih, Nat.succ_mul, Nat.add_comm]
theorem op_rep : OpR X (binaryOp .Mult) rRep := by
  intro pins s σ H x y v u Q I rx ry h
  obtain ⟨l, k, xs, rfl, rfl, hH, h1, h2, hz, q⟩ := h
  cases rx
  obtain ⟨t, rfl⟩ := ry
  obtain ⟨z, its, n, r, hl, e⟩ := I.lstM hH
  have hlen : its.toArray.size * k.toNat ≤ sizeLine := by rw [List.size_toArray, ← hl]; exact hz
  have hcap : ¬ its.toArray.size * k.toNat > (2 ^ 63 - 1) / 8 := by
    have : (sizeLine : Nat) ≤ (2 ^ 63 - 1) / 8 := by decide
    omega
  have hfit : ¬ (!Builtin.List.listFitsIndex k) = true := by
    rw [fitsIndex_both h1 h2]
    exact Bool.false_ne_true
  have hlong : ¬ Builtin.List.listTooLong (its.toArray.size * k.toNat) = true := by
    rw [notLongL hlen]
    exact Bool.false_ne_true
  have hnew : List.foldl (fun x1 x2 => x1 ++ x2) #[] (List.replicate (if its.toArray.isEmpty = true then 0 else k.toNat) its.toArray) = (List.replicate k.toNat its).flatten.toArray := by
    have f0 : ∀ m : Nat, List.foldl (fun x1 x2 => x1 ++ x2) #[] (List.replicate m its.toArray) = (List.replicate m its).flatten.toArray := fun m => by
      have := foldl_rep its m []
      rw [List.nil_append] at this
      exact this
    rw [f0]
    cases its with
    | nil => simp
    | cons a r' => rw [if_neg (by simp)]
  refine wpAny_binaryOp_repeat_ref (T := "list") (U := "int") (by decide) ⟨_, e, rfl⟩ (fun s' => typeIs_int s' k t) noFill_list_mul F.fills_int_mul F.slot_int_rmul repeat_list F.slot_int_index.lookup
    (call_meets F.slot_int_rmul (typeIs_int s k t) F.entry_int_rmul (F.args_int_rmul_2 _ _) (int___rmul___int_list k t l its.toArray n)
      ⟨e, rfl, ⟨_, e, rfl⟩, call_meets F.slot_list_mul ⟨_, e, rfl⟩ F.entry_list_mul (F.args_list_mul_2 _ _) (AutoListH.list___mul___list_int_3 l its.toArray n k t hfit hcap hlong) ⟨e, ?_⟩⟩)
  rw [hnew]
  exact ⟨.ref _, _, I.lnew (t' := s.toks) (r.rep k.toNat) (by rw [len_rep, Nat.mul_comm]; exact hz), rfl, q _ I.fresh⟩
end
section
variable {prog : Program} {w : World} {A : Around} {E : Value → Shared → Prop} {s : Shared}
end
section
variable {X : Cx}
end
end L2
namespace Att
open PySem PySem.W PySem.Calls PyProof.Rows
theorem ints_of_wellAll {P : Params} {h : Heap} : ∀ (ns : List Int) (vs : List Value), WellAll P h vs (ns.map WData.int) → IntsAre vs ns := by
  intro ns
  induction ns with
  | nil =>
    intro vs w
    rw [List.map_nil] at w
    cases w
    exact .nil
  | cons n ns ih =>
    intro vs w
    rw [List.map_cons] at w
    cases w with
    | cons a b =>
      cases a
      exact .cons _ _ (ih _ b)
theorem script_of {l : OpenLaw} {n : Nat} (hn : l.most = some n) {P : Params} {h : Heap} {args : List WData} {vals : List Value}
    (hpre : l.row.toRowW.claim.pre args = true) (hwl : WellAll P h vals args) :
    ∃ a vs ns, vals = [Value.ref a] ∧ args = [WData.list (ns.map WData.int)] ∧ h.get? a = some { cls := .type "list", data := .seq vs.toArray } ∧ IntsAre vs ns ∧ ns.length ≤ n := by
  have hsh : WShape.hasAll [] args [.list .int] = true := (pre_splitW hpre).1
  have hc : l.pre.holds [] { args := args } = true := (pre_splitW hpre).2
  obtain ⟨d, r, rfl, h1, h2⟩ := hasAllW_cons hsh
  obtain rfl := hasAllW_nil h2
  obtain ⟨xs, rfl, h3⟩ := hasW_list h1
  obtain ⟨ns, rfl⟩ := items_int h3
  have hlen : ns.length ≤ n := by
    unfold OpenLaw.pre at hc
    have h4 : (WTm.not (.lt (.lit (.int (n : Int))) (.len (.arg 0)))).holds [] { args := [.list (ns.map .int)] } = true := by
      have h4 := (holds_andW hc).1
      rw [hn] at h4
      exact h4
    have h5 := condW_of h4 (w_not (w_lt w_lit (w_len_list (w_arg rfl))))
    rw [List.length_map] at h5
    refine Nat.le_of_not_lt fun q => ?_
    have q' : (n : Int) < ((ns.length : Nat) : Int) := by omega
    first
      | (rw [decide_eq_true q'] at h5; exact absurd h5 (by decide))
      | (simp at h5; omega)
  cases hwl with
  | cons w1 w2 =>
    cases w2
    cases w1 with
    | list ho hall => exact ⟨_, _, ns, rfl, rfl, ho, ints_of_wellAll ns _ hall, hlen⟩
theorem post_true (l : OpenLaw) (args : List WData) : l.row.toRowW.claim.post args (.bool true) args = true :=
  postW_of (r := l.row.toRowW) (X := (true == true))
    (show WShape.has [] (.bool true) .bool = true by first | rfl | decide | simp [WShape.has, WShape.arms, WShape.armsAll])
    (show (WTm.eq .res (.lit (.bool true))).value [] { args := args, res := some (.bool true), after := args } = some (.bool (true == true)) from w_eq_bool (w_res rfl) w_lit) rfl
theorem attach_call {l : OpenLaw} {n : Nat} {q : Program} {loose : List Str} {XP : (Str → Option Value) → Heap → Prop} {YP : World → Heap → Prop} {d : DefRec}
    (hn : l.most = some n) (hdf : d.params.defaults = [])
    (call : ∀ (w : World) (s₀ s₁ : Shared) (mg mb : Str → Option Value) (fa : Addr) (o : Obj) (pm cd doc : Value) (a : Addr) (vs : List Value) (ns : List Int),
      Ground q loose [] XP w s₀ mg mb s₁.heap → YP w s₁.heap →
      s₁.heap.get? fa = some o → o.data = .func (docDef d.name d.params d.body d.scope pm cd doc) → s₁.heap.CodeRec cd d.name → mg d.name = some (.ref fa) →
      s₁.heap.get? a = some { cls := .type "list", data := .seq vs.toArray } → IntsAre vs ns → ns.length ≤ n → s₁.gens = #[] →
      codeAny (model l.prog w) callerA (.call (.ref fa) ⟨[.ref a], []⟩) (fun r s' => r = .ok (.ret (.bool true)) ∧ OldK s₁.heap s'.heap ∧ s'.os = s₁.os ∧ AllBare s'.gens) s₁) :
    WalkO q loose XP YP l.row.toRowW d [] (fun f vs => PySem.call f vs) := by
  intro w s₀ s₁ mg mb G Y fa o pm cd doc dV kV ho hd hcd hD hmg hg args vals as hpre hlay hrd hwl hlo
  obtain rfl : dV = .none := Dflts.none hD hdf
  obtain rfl : kV = .none := Dflts.noKw hD
  obtain ⟨a, vs, ns, rfl, rfl, hobj, hints, hlen⟩ := script_of hn hpre hwl
  refine enter_call (codeAny_mono (call w s₀ s₁ mg mb fa o pm cd doc a vs ns G Y ho (fd_plain hd) hcd hmg hobj hints hlen hg) fun r s' hq => ?_)
  obtain ⟨rfl, h2, h3, h4⟩ := hq
  exact ⟨.inl ⟨.bool true, .bool true, [], rfl, fun _ => rfl, .bool true, post_true l _, fun _ => ⟨List.Pairwise.nil, fun _ hm => (nomatch hm)⟩⟩, h2, h3, h4⟩
section
variable {prog : Program} {w : World} {A : Around} {E : Value → Shared → Prop} {s : Shared} {K : Frag}
end
end Att
namespace L2
open PySem PySem.Spec PyProof.Rows
theorem vals_ints : ∀ {vs : List Value} {ns : List Int}, IntsAre vs ns → Vals (ns.map V.int) vs
  | _, _, .nil => .nil
  | _, _, .cons n t h => .cons ⟨t, rfl⟩ (vals_ints h)
def Only (H : Hp) : Prop := ∀ b, H b = none ∨ ∃ o xs, H b = some (.frz o (.lst xs))
theorem law_call {P : Program} {w : World} {K : PySem.W.Frag} {mg mb : Str → Option Value} {CX : CXT} {k : Nat} {fa a : Addr} {fd : FuncData} {x : Str} {sp : Sp} {s₁ : Shared} {vs : List Value} {ns : List Int}
    (KX : K.In s₁.heap) (hns : s₁.heap.Ns mainGlobals mg) (hb : s₁.heap.Ns builtinsNs mb) (hbb : ∀ x : Str, x ≠ "__name__" → mb x = bootBuiltins x) (hlim : s₁.heap.NoLimit) (hg : s₁.gens = #[])
    (ha : s₁.heap.get? a = some { cls := .type "list", data := .seq vs.toArray }) (hi : IntsAre vs ns) (hl : ns.length ≤ sizeLine) (hr : Room k callerA)
    (F : ∀ base : Heap, K.In base → base.Ns mainGlobals mg → FnOk P w K mg base CX k fa fd [x] sp) (hbind : ∀ (s : Shared) (u : Value), BindsTo s fd ⟨[u], []⟩ [(x, u)])
    (hsp : ∀ H : Hp, Only H → SqL K H a (ns.map V.int) → sp [.ref a] H (fun v _ => v = .bl true) fun _ _ _ => False)
    (hCX : ∀ H e s', CX [] H s₁ (fun _ _ _ => False) e s' → False) :
    codeAny (model P w) callerA (.call (.ref fa) ⟨[.ref a], []⟩) (fun r s' => r = .ok (.ret (.bool true)) ∧ OldK s₁.heap s'.heap ∧ s'.os = s₁.os ∧ AllBare s'.gens) s₁ := by
  have rv := vals_ints hi
  have lenV := hi.length
  have core : ∀ H : Hp, Only H → SqL K H a (ns.map V.int) → HOk P w H s₁.heap → (∀ b, H b ≠ none → b = a) → (H a ≠ none → K.lookup a = none) →
      codeAny (model P w) callerA (.call (.ref fa) ⟨[.ref a], []⟩) (fun r s' => r = .ok (.ret (.bool true)) ∧ OldK s₁.heap s'.heap ∧ s'.os = s₁.os ∧ AllBare s'.gens) s₁ := by
    intro H hO hS hok hA hK
    have base_of : ∀ {b : Addr} {o : Obj}, s₁.heap.get? b = some o → H b = none → (hidT s₁.heap H).get? b = some o := fun e n => hidT_get e n
    have noA : ∀ {b : Addr} {o : Obj} {es : Array DictEntry} {ep : Nat}, s₁.heap.get? b = some o → o.data = .dict es ep → H b = none := fun {b o es ep} e d => by
      cases q : H b with
      | none => rfl
      | some u =>
        have e' : b = a := hA b (by rw [q]; simp)
        subst e'
        rw [ha] at e; cases e
        have d' : Data.seq vs.toArray _ = Data.dict es ep := d
        cases d'
    have nsK : ∀ {b : Addr} {m : Str → Option Value}, s₁.heap.Ns b m → (hidT s₁.heap H).Ns b m := fun {b m} ⟨o, es, ep, e, d, r⟩ => ⟨o, es, ep, base_of e (noA e d), d, r⟩
    have hKb : K.In (hidT s₁.heap H) := fun b o e => base_of (KX b o e) (by
      cases q : H b with
      | none => rfl
      | some u =>
        have e' : b = a := hA b (by rw [q]; simp)
        subst e'
        rw [hK (by rw [q]; simp)] at e; cases e)
    have hM : Mod K mg (hidT s₁.heap H) := ⟨hKb, nsK hns, ⟨mb, nsK hb, hbb⟩, let ⟨mc, h1, h2⟩ := hlim; ⟨mc, nsK h1, h2⟩⟩
    have e0 : Env0 P w K mg (hidT s₁.heap H) callerA [] s₁ H := ⟨rfl, hM, fun b o e => of_hidT e, Nat.le_of_eq (hidT_size _ _), trivial, fun b hb => absurd (show b ∈ ([] : List Addr) from hb) (by simp), hok, .of_eq hg⟩
    refine codeAny_mono ((F _ hKb (nsK hns)).run callerA [] s₁ H ⟨[.ref a], []⟩ [.ref a] [.ref a] _ _ hr e0 (hbind s₁ (.ref a)) (.cons rfl .nil) (hsp H hO hS)) fun r s' h => ?_
    cases r with
    | error e => exact (hCX H e s' h).elim
    | ok fl =>
      cases fl with
      | next => exact False.elim h
      | brk => exact False.elim h
      | cont => exact False.elim h
      | ret u =>
        obtain ⟨v, H', os, bare, un, hok', r', q⟩ := h
        have q' : v = .bl true := q
        subst q'
        obtain rfl : u = Value.bool true := r'
        refine ⟨rfl, OldK.of_keep fun b o e => ?_, os, bare⟩
        cases q : H b with
        | none => exact un.keep b o e q (by intro z; exact absurd (show b ∈ ([] : List Addr) from z) (by simp)) (by simp)
        | some u =>
          rcases hO b with z | ⟨ob, xs, z⟩
          · rw [q] at z; cases z
          · have z2 := un.frzs b ob _ z
            obtain ⟨e1, _⟩ := hok b _ z
            obtain ⟨e2, _⟩ := hok' b _ z2
            rw [e] at e1; cases e1
            exact e2
  cases hk : K.lookup a with
  | some o =>
    have e := KX a o hk
    rw [ha] at e
    cases e
    refine core (fun _ => none) (fun _ => .inl rfl) (.inr ⟨_, vs.toArray, _, hk, rfl, rfl, rfl, by rw [List.size_toArray, lenV]; exact hl, by simpa using rv⟩) (fun b u z => by have z' : (none : Option HO) = some u := z; cases z') (fun b z => absurd rfl z) fun z => absurd rfl z
  | none =>
    refine core (fun b => if b = a then some (.frz { cls := .type "list", data := .seq vs.toArray } (.lst (ns.map V.int))) else none) (fun b => ?_) (.inl (.inr ⟨{ cls := .type "list", data := .seq vs.toArray }, if_pos rfl⟩)) (fun b u z => ?_) (fun b z => ?_) fun _ => hk
    · by_cases hb : b = a
      · exact .inr ⟨_, _, if_pos hb⟩
      · exact .inl (if_neg hb)
    · by_cases hb : b = a
      · have z' := (if_pos hb).symm.trans z
        cases z'
        subst hb
        exact ⟨ha, by rw [List.length_map]; exact hl, vs, _, rv, ha⟩
      · have z' := (if_neg hb).symm.trans z
        cases z'
    · by_cases hb : b = a
      · exact hb
      · exact absurd (if_neg hb) z
end L2
namespace L2
open PySem PySem.Spec PyProof.Rows
theorem walk_of {l : PySem.W.OpenLaw} {n k : Nat} {q : Program} {loose : List Str} {XP : (Str → Option Value) → Heap → Prop} {YP : World → Heap → Prop} {d : DefRec} {K : Params → PySem.W.Frag} {CX : World → CXT} {sp : World → Sp} {x : Str}
    (hn : l.most = some n) (hn2 : n ≤ sizeLine) (hdf : d.params.defaults = []) (hr : Room k callerA)
    (hY : ∀ (w : World) (h : Heap), YP w h → (K w.params).In h)
    (F : ∀ (w : World) (mg : Str → Option Value) (fa : Addr) (h : Heap), (K w.params).In h → h.Ns mainGlobals mg → mg d.name = some (.ref fa) →
      ∃ fd : FuncData, (∀ (s : Shared) (u : Value), BindsTo s fd ⟨[u], []⟩ [(x, u)]) ∧
        ∀ base : Heap, (K w.params).In base → base.Ns mainGlobals mg → FnOk l.prog w (K w.params) mg base (CX w) k fa fd [x] (sp w))
    (hsp : ∀ (w : World) (H : Hp) (a : Addr) (ns : List Int), ns.length ≤ n → Only H → SqL (K w.params) H a (ns.map V.int) → sp w [.ref a] H (fun v _ => v = .bl true) fun _ _ _ => False)
    (hCX : ∀ (w : World) (H : Hp) (s : Shared) (e : Value) (s' : Shared), CX w [] H s (fun _ _ _ => False) e s' → False) :
    PySem.W.WalkO q loose XP YP l.row.toRowW d [] (fun f vs => PySem.call f vs) := by
  refine Att.attach_call hn hdf fun w s₀ s₁ mg mb fa o pm cd doc a vs ns G Y ho hd hcd hmg hobj hints hlen hg => ?_
  have KX := hY w _ Y
  obtain ⟨fd, hb, hF⟩ := F w mg fa _ KX G.T.g hmg
  exact law_call KX G.T.g G.T.b G.T.builtins G.T.nolimit hg hobj hints (Nat.le_trans hlen hn2) hr hF hb (fun H hO hS => hsp w H a ns hlen hO hS) fun H e s' => hCX w H s₁ e s'
end L2
namespace L2
open PySem PySem.Spec PyProof.Rows
def defArgs (s : Stmt) : Arguments := match s with
  | .FunctionDef _ a _ _ _ _ _ _ _ _ => a
  | _ => { posonlyargs := [], args := [], vararg := none, kwonlyargs := [], kw_defaults := [], kwarg := none, defaults := [] }
def defBody (s : Stmt) : List Stmt := match s with
  | .FunctionDef _ _ b _ _ _ _ _ _ _ => b
  | _ => []
def defScope (s : Stmt) : Scope := match s with
  | .FunctionDef _ _ _ _ _ _ sc _ _ _ => sc
  | _ => { kind := .function, names := [], isGenerator := false, isCoroutine := false }
abbrev CX0 : CXT := fun _ _ _ _ _ _ => False
abbrev E0 : XK := fun _ _ _ => False
theorem pass0 {X : Cx} : Passes CX0 X E0 := fun _ _ _ _ _ _ _ h => h.elim
structure Fun (K : PySem.W.Frag) (x qual : Str) (st : Stmt) (f : Addr) (fd : FuncData) : Prop where
  ex : ∃ (oc : Value) (od : Option Addr) (kV doc pm : Value) (an : Option Addr) (cdv ct : Value) (osl : Array (Option Value)),
    fd = PySem.W.fnOf x qual (defArgs st) (defBody st) (defScope st) .none kV doc pm an cdv ct ∧ K.lookup f = some ⟨oc, od, .func fd, osl⟩ ∧ PySem.W.codeIn K cdv qual = true
  kp : PySem.W.keepIn K (.ref f) = true
section
variable {P : Program} {w : World} {K : PySem.W.Frag} {mg : Str → Option Value} {base : Heap}
theorem Fun.ok {x qual : Str} {st : Stmt} {f : Addr} {fd : FuncData} {N ps : List Str} {k : Nat} {sp : Sp} (F : Fun K x qual st f fd) (S : FnScope N ps (defScope st)) (len : ∀ vs H Q E, sp vs H Q E → vs.length = ps.length)
    (hbody : ∀ (cdv : Value) (A : Around) (outer : List Env) (s : Shared) (H : Hp) (vs : List V) (Q : VK) (E : XK), Room k (A.deeper (envOfC qual (defScope st) s.heap.objs.size f cdv)) → sp vs H Q E →
      ∃ t, PSs (cxOf CX0 P w K mg base N qual (defScope st) f cdv A outer s H E).nox (defBody st) t ∧ t { nx := fun _ H' => Q .non H', rt := Q } (start N vs) H) : FnOk P w K mg base CX0 (k + 1) f fd ps sp := by
  obtain ⟨oc, od, kV, doc, pm, an, cdv, ct, osl, rfl, lk, hcd⟩ := F.ex
  refine fn_of lk hcd S len fun A outer s H vs Q E hr hsp => ?_
  obtain ⟨t, h, q⟩ := hbody cdv A outer s H vs Q E hr hsp
  exact ⟨t, h.nox, q⟩
theorem Fun.binds {x qual : Str} {st : Stmt} {f : Addr} {fd : FuncData} {ps : List Str} (F : Fun K x qual st f fd)
    (h : ∀ (kV doc pm : Value) (an : Option Addr) (cdv ct : Value) (us : List Value), us.length = ps.length → bindArgs (PySem.W.fnOf x qual (defArgs st) (defBody st) (defScope st) .none kV doc pm an cdv ct) ⟨us, []⟩ = pure (ps.zip us)) : Binds K fd ps [] := by
  obtain ⟨oc, od, kV, doc, pm, an, cdv, ct, osl, rfl, lk, hcd⟩ := F.ex
  exact .all (h kV doc pm an cdv ct)
theorem fun_mk {x qual : Str} {st : Stmt} {f : Addr} {oc : Value} {od an : Option Addr} {osl : Array (Option Value)} {kV doc pm cdv ct : Value} (l : K.lookup f = some ⟨oc, od, .func (PySem.W.fnOf x qual (defArgs st) (defBody st) (defScope st) .none kV doc pm an cdv ct), osl⟩)
    (c : PySem.W.codeIn K cdv qual = true) (k : PySem.W.keepIn K (.ref f) = true) : Fun K x qual st f (PySem.W.fnOf x qual (defArgs st) (defBody st) (defScope st) .none kV doc pm an cdv ct) := ⟨⟨oc, od, kV, doc, pm, an, cdv, ct, osl, rfl, l, c⟩, k⟩
end
section
variable {X : Cx}
theorem pv (i : Nat) {x : Str} {pos : Pos} (hN : X.N[i]? = some x := by rfl) (hv : Vis X.env.scope x := by first | exact Or.inl rfl | exact Or.inr (Or.inl rfl) | exact Or.inr (Or.inr rfl)) (hd : (x == ("__debug__" : Str)) = false := by decide)
    (hcd : (x == ("__classdict__" : Str)) = false := by decide) : PE X (.Name x pos) (tVar i) := pe_var hN hv hd hcd
end
theorem iteF {A B : Prop} (h : B) : if false = true then A else B := by
  rw [if_neg Bool.false_ne_true]
  exact h
theorem iteT {A B : Prop} (h : A) : if true = true then A else B := by
  rw [if_pos rfl]
  exact h
def Same (H H' : Hp) : Prop := ∀ b o, H b = some o → H' b = some o
theorem Same.refl (H : Hp) : Same H H := fun _ _ h => h
theorem Same.trans {H H1 H2 : Hp} (a : Same H H1) (b : Same H1 H2) : Same H H2 := fun c o h => b c o (a c o h)
theorem Same.free {H H' : Hp} (e : Same H H') {l : Addr} (h : H' l = Option.none) : H l = Option.none := by
  cases q : H l with
  | none => rfl
  | some o =>
    rw [e l o q] at h
    cases h
theorem Same.seq {K : PySem.W.Frag} {H H' : Hp} {a : Addr} {xs : List V} (e : Same H H') (h : SqL K H a xs) : SqL K H' a xs := by
  rcases h with (h | ⟨o, h⟩) | h
  · exact .inl (.inl (e _ _ h))
  · exact .inl (.inr ⟨o, e _ _ h⟩)
  · exact .inr h
end L2
namespace L2
open PySem PySem.Spec PyProof.Rows
abbrev NoX : Value → Shared → Prop := fun _ _ => False
theorem noX {α : Type} {M : Model} {A : Around} {m : Sem α} {Q : α → Shared → Prop} {E : Value → Shared → Prop} {s : Shared} (h : wpAny M A m Q NoX s) : wpAny M A m Q E s :=
  wpAny_mono h (fun _ _ q => q) fun _ _ z => z.elim
abbrev lcTests (ifs : List Expr) (env : Env) : Sem Bool :=
  forIn ifs true fun c r => if r = true then do let ok ← isTrue c env (eval c env); pure (ForInStep.yield ok) else pure (ForInStep.yield r)
theorem lcLoop {P : Program} {w : World} {A : Around} {R : Result → Shared → Prop} {s : Shared} {elt tg iter : Expr} {ifs : List Expr} {sc : Scope} {pos : Pos} {it acc : Value} {env : Env} (I : Nat → Shared → Prop)
    (turn : ∀ n s, I n s → wpAny (model P w) A (pyNext it) (fun r s1 => match r with
      | none => R (.ok .next) s1
      | some v => wpAny (model P w) A (letOwnedTupleGo tg it v) (fun _ s2 => wpAny (model P w) A (assign tg env v) (fun _ s3 =>
          wpAny (model P w) A (lcTests ifs env) (fun ok s4 => if ok = true then wpAny (model P w) A (eval elt env) (fun x s5 =>
              wpAny (model P w) A (call (.builtin "list.append") [acc, x]) (fun _ s6 => ∃ m, m < n ∧ I m s6) NoX s5) NoX s4
            else ∃ m, m < n ∧ I m s4) NoX s3) NoX s2) NoX s1) NoX s)
    (n : Nat) (h : I n s) : codeAny (model P w) A (.compLoop (.ListComp elt [⟨tg, iter, ifs, 0⟩] sc pos) 0 it acc env) R s := by
  refine codeAny_loop rfl I (fun n s hI => ?_) n h
  show wpAny (model P w) A ((compTurn (.ListComp elt [⟨tg, iter, ifs, 0⟩] sc pos) 0 it acc env).onRaise (fun x => do noteFrame x env; theTreesLotGoes x)) _ _ s
  refine wpAny_noted (noX ?_)
  rw [compTurn_list]
  refine wpAny_bind (wpAny_standAt (wpAny_bind (thn (turn n s hI) fun r s1 h1 => ?_)))
  cases r with
  | none => exact wpAny_pure h1
  | some v =>
    refine wpAny_bind (thn h1 fun _ s2 h2 => wpAny_bind (thn h2 fun _ s3 h3 => wpAny_bind (thn h3 fun ok s4 h4 => ?_)))
    cases ok with
    | false => exact wpAny_pure ⟨rfl, h4⟩
    | true => exact wpAny_bind (wpAny_bind (thn h4 fun x s5 h5 => wpAny_bind (thn h5 fun _ s6 h6 => wpAny_pure (wpAny_pure ⟨rfl, h6⟩))))
theorem cf_some : ∀ (names : List (Str × NameKind)) (n : Nat) (acc : List (Str × Addr)) (y : Str), (∃ c, acc.lookup y = some c) → ∃ c, (cellsFrom n names acc).lookup y = some c
  | [], _, _, _, h => h
  | (name, kind) :: r, n, acc, y, ⟨c, h⟩ => by
    unfold cellsFrom
    split
    · refine cf_some r _ _ y ?_
      rw [List.lookup_cons]
      split
      · exact ⟨_, rfl⟩
      · exact ⟨c, h⟩
    · exact cf_some r _ _ y ⟨c, h⟩
theorem cf_has : ∀ (names : List (Str × NameKind)) (n : Nat) (acc : List (Str × Addr)) (y : Str), (y, NameKind.cell) ∈ names → ∃ c, (cellsFrom n names acc).lookup y = some c
  | [], _, _, _, h => nomatch h
  | (name, kind) :: r, n, acc, y, h => by
    unfold cellsFrom
    rcases List.mem_cons.mp h with e | h
    · cases e
      rw [if_pos (by decide)]
      exact cf_some r _ _ _ ⟨n, by rw [List.lookup_cons_self]⟩
    · split
      · exact cf_has r _ _ y h
      · exact cf_has r _ _ y h
theorem cf_lookup : ∀ (names : List (Str × NameKind)) (n : Nat) (acc : List (Str × Addr)) (y : Str) (c : Addr), (cellsFrom n names acc).lookup y = some c → acc.lookup y = some c ∨ (n ≤ c ∧ (y, NameKind.cell) ∈ names)
  | [], _, _, _, _, h => .inl h
  | (name, kind) :: r, n, acc, y, c, h => by
    unfold cellsFrom at h
    split at h
    · rename_i hk
      rcases cf_lookup r _ _ y c h with q | ⟨q1, q2⟩
      · rw [List.lookup_cons] at q
        split at q
        · rename_i hy
          cases q
          rw [beq_iff_eq.mp hy, ← beq_iff_eq.mp hk]
          exact .inr ⟨Nat.le_refl _, .head _⟩
        · exact .inl q
      · exact .inr ⟨Nat.le_of_succ_le q1, .tail _ q2⟩
    · rcases cf_lookup r _ _ y c h with q | ⟨q1, q2⟩
      · exact .inl q
      · exact .inr ⟨q1, .tail _ q2⟩
theorem cf_old : ∀ (names : List (Str × NameKind)) (n : Nat) (acc : List (Str × Addr)) (y : Str), (y, NameKind.cell) ∉ names → (cellsFrom n names acc).lookup y = acc.lookup y
  | [], _, _, _, _ => rfl
  | (name, kind) :: r, n, acc, y, h => by
    unfold cellsFrom
    have hr : (y, NameKind.cell) ∉ r := fun z => h (.tail _ z)
    split
    · rename_i hk
      rw [cf_old r _ _ y hr, List.lookup_cons]
      split
      · rename_i hy
        exact absurd (show (y, NameKind.cell) ∈ (name, kind) :: r by rw [beq_iff_eq.mp hy, ← beq_iff_eq.mp hk]; exact .head _) h
      · rfl
    · exact cf_old r _ _ y hr
theorem cf_inj : ∀ (names : List (Str × NameKind)) (n : Nat) (acc : List (Str × Addr)), (∀ y c, acc.lookup y = some c → c < n) → (∀ y z c, acc.lookup y = some c → acc.lookup z = some c → y = z) →
    ∀ y z c, (cellsFrom n names acc).lookup y = some c → (cellsFrom n names acc).lookup z = some c → y = z
  | [], _, _, _, h => h
  | (name, kind) :: r, n, acc, h1, h2 => by
    unfold cellsFrom
    split
    · refine cf_inj r _ _ (fun y c e => ?_) fun y z c e e' => ?_
      · rw [List.lookup_cons] at e
        split at e
        · cases e; exact Nat.lt_succ_self _
        · exact Nat.lt_succ_of_lt (h1 y c e)
      · rw [List.lookup_cons] at e e'
        split at e
        · rename_i hy
          cases e
          split at e'
          · rename_i hz
            rw [beq_iff_eq.mp hy, beq_iff_eq.mp hz]
          · exact absurd (h1 z _ e') (Nat.lt_irrefl _)
        · split at e'
          · cases e'
            exact absurd (h1 y _ e) (Nat.lt_irrefl _)
          · exact h2 y z c e e'
    · exact cf_inj r _ _ h1 h2
theorem cf_cell : ∀ (names : List (Str × NameKind)) (h : Heap) (acc : List (Str × Addr)) (y : Str) (c : Addr), (cellsFrom h.objs.size names acc).lookup y = some c → acc.lookup y = some c ∨ (pushCells h names).IsCell c none
  | [], _, _, _, _, e => .inl e
  | (name, kind) :: r, h, acc, y, c, e => by
    unfold cellsFrom at e
    unfold pushCells
    split
    · rename_i hk
      rw [if_pos hk] at e
      rw [show h.objs.size + 1 = (h.push { cls := .type "cell", data := .cell none }).objs.size from (Heap.size_push ..).symm] at e
      rcases cf_cell r _ _ y c e with q | q
      · rw [List.lookup_cons] at q
        split at q
        · cases q
          exact .inr (Heap.IsCell.keeps ⟨_, Heap.get?_push_size _ rfl, rfl⟩ (pushCells_keeps r _))
        · exact .inl q
      · exact .inr q
    · rename_i hk
      rw [if_neg hk] at e
      exact cf_cell r _ _ y c e
theorem newEnv_cells {M : Model} {A : Around} {E : Value → Shared → Prop} {s : Shared} {scope : Scope} {globals : Addr} {cl : List (Str × Addr)} {qual : Str} {func : Option Addr} {code : Value} {env : Env} {builtins : Addr} {Q : Env → Shared → Prop}
    (hQ : Q (newEnv scope s.heap.objs.size globals (cellsFrom (s.heap.objs.size + 1) scope.names cl) qual func code (some env) builtins) { s with heap := pushCells (s.heap.push { cls := .type "dict", data := .dict #[] }) scope.names }) :
    wpAny M A (newFunctionEnv scope globals cl [] qual func code (some env) builtins) Q E s := by
  simp only [newFunctionEnv, Option.isSome_some, if_true]
  refine wpAny_bind (wpAny_alloc ?_)
  refine wpAny_bind (wpAny_layCells _ (fun name kind cells => by cases hkc : kind == NameKind.cell <;> simp [hkc]) _ _ _ _ ?_)
  rw [show ({ s with heap := s.heap.push { cls := .type "dict", data := .dict #[] } } : Shared).heap.objs.size = s.heap.objs.size + 1 from Heap.size_push ..]
  rw [List.forIn_nil]
  exact wpAny_bind (wpAny_pure (wpAny_pure hQ))
def cxLc (X : Cx) (own : List Str) (fr : List Nat) (sc : Scope) (cl : List (Str × Addr)) (C : Addr) (s : Shared) (H : Hp) (ex : List Addr) (pn : List (Addr × Obj)) : Cx where
  prog := X.prog
  w := X.w
  K := X.K
  mg := X.mg
  base := X.base
  A := X.A
  N := own ++ fr.map fun j => X.N.getD j ""
  s₀ := s
  H₀ := H
  env := compEnvC sc (cellsFrom (C + 1) sc.names cl) C X.env
  outer := X.stack
  stack := X.stack
  ex := ex
  fn := fun y => (cl.lookup y).isNone
  calm := X.calm
  pn := pn
  xe := NoX
def lcStart (own : List Str) (fr : List Nat) (σ : St) : St := own.map (fun _ => none) ++ fr.map fun j => (σ[j]?).join
structure LcScope (X : Cx) (sc : Scope) (cl : List (Str × Addr)) (fr : List Nat) : Prop where
  clos : closureFor sc X.env = pure cl
  kind : sc.kind = .function
  cells : ∀ y, (y, NameKind.cell) ∈ sc.names → cl.lookup y = none
  names : ∀ y ∈ sc.names, y.2 = .local → sc.names.lookup y.1 = some .local
  sub : ∀ y c, cl.lookup y = some c → X.env.cells.lookup y = some c
  has : ∀ y, ((relabel sc X.env).names.lookup y = some .cell ∨ (relabel sc X.env).names.lookup y = some .free) → (∃ c, cl.lookup y = some c) ∨ (y, NameKind.cell) ∈ sc.names
  frN : ∀ j ∈ fr, ∃ y, X.N[j]? = some y ∧ ((relabel sc X.env).names.lookup y = some .cell ∨ (relabel sc X.env).names.lookup y = some .free) ∧ Vis X.env.scope y ∧ X.env.scope.names.lookup y ≠ some .local ∧ ∃ c, cl.lookup y = some c
def tLc (wi : TI) (g : TG) (tt : TT) (te : TE) (own : List Str) (fr : List Nat) : TE := fun σ H Q => wi σ H fun J H1 => ∀ acc, H1 acc = none →
  ∃ W : Nat → Nat → List V → St → Hp → Prop, (∃ m, W 0 m [] (lcStart own fr σ) (upd H1 acc (.lst []))) ∧ ∀ i m ys σ1 H2, W i m ys σ1 H2 → H2 acc = some (.lst ys) ∧ ys.length < sizeLine ∧
    ((J.stop i H2 ∧ Q (.ref acc) H2) ∨ (J.go i H2 ∧ ∃ N : List V → St → Hp → Prop, (∀ zs σ2 H3, N zs σ2 H3 → ∃ m', m' < m ∧ W (i + 1) m' zs σ2 H3) ∧
      ∀ x H3, J.yld i H2 x H3 → g x σ1 H3 fun σ2 H4 => tt σ2 H4 fun b H5 => if b = true then te σ2 H5 (fun y H6 => H6 acc = some (.lst ys) ∧ N (ys ++ [y]) σ2 (upd H6 acc (.lst (ys ++ [y])))) else N ys σ2 H5))
theorem getD_of {N : List Str} {j : Nat} {y : Str} (h : N[j]? = some y) : N.getD j "" = y := by rw [List.getD_eq_getElem?_getD, h]; rfl
theorem lcInv {X : Cx} {pins : List (Addr × Obj)} {σ : St} {H : Hp} {s : Shared} {sc : Scope} {cl : List (Str × Addr)} {own : List Str} {fr : List Nat} {fp : List Addr} {h4 : Heap} {tk : Nat}
    (L : LcScope X sc cl fr) (I : Inv X pins σ H s) (hfp : ∀ b ∈ fp, FpOk X pins H b) (hlt : ∀ b ∈ fp, b < s.heap.objs.size) (hns : h4.Ns s.heap.objs.size fun _ => none)
    (kp : ∀ b o, s.heap.get? b = some o → h4.get? b = some o) (ncl : ∀ y c, (cellsFrom (s.heap.objs.size + 1) sc.names cl).lookup y = some c → cl.lookup y = some c ∨ h4.IsCell c none) : Inv (cxLc X own fr sc cl s.heap.objs.size s H fp (X.pn ++ pins)) [] (lcStart own fr σ) H { s with heap := h4, toks := tk } := by
  have noL : ∀ {b : Addr} {o : Obj}, s.heap.get? b = some o → b ≠ s.heap.objs.size := fun e => Nat.ne_of_lt (Heap.lt_size e)
  have hex : ∀ b ∈ (cxLc X own fr sc cl s.heap.objs.size s H fp (X.pn ++ pins)).ex, b ∈ fp := fun b z => z
  have stk : ∀ b, b ≠ X.env.locals → b ∉ X.fs → b ∉ frs X.stack := fun b h1 h2 z => (List.mem_cons.mp (I.stkSub b z)).elim h1 h2
  have cellLt : ∀ y c, cl.lookup y = some c → ∃ v, s.heap.IsCell c v := fun y c e => I.cell y c (L.sub y c e)
  have split : ∀ y c, (cellsFrom (s.heap.objs.size + 1) sc.names cl).lookup y = some c → cl.lookup y = some c ∨ s.heap.objs.size + 1 ≤ c := fun y c e => (cf_lookup _ _ _ y c e).imp id And.left
  refine ⟨⟨I.ok.mod, L.kind, I.ok.glob, I.ok.blt, Nat.le_refl _, cf_inj _ _ _ (fun y c e => by obtain ⟨v, q⟩ := cellLt y c e; exact Nat.lt_succ_of_lt q.lt) (fun y z c h1 h2 => I.ok.inj y z c (L.sub y c h1) (L.sub z c h2)), fun y hy => (L.has y hy).elim (cf_some _ _ _ y) (cf_has _ _ _ y), fun y c hy e => ?_, I.ok.hd, I.ok.frames, .inl rfl,
      fun b hb => ⟨Nat.ne_of_lt (hlt b (hex b hb)), fun y c e => (split y c e).elim (fun q => (hfp b (hex b hb)).2.2.2.2.1 y c (L.sub y c q)) fun q => Nat.ne_of_gt (Nat.lt_of_lt_of_le (hlt b (hex b hb)) (Nat.le_of_succ_le q))⟩, I.bs, Nat.le_trans I.ok.bsz I.sz, fun b o e z => ?_, fun b z => ?_, I.stack, I.stkFree⟩,
    rfl, I.bare, Un.kept kp, ⟨_, hns, fun i y v h1 h2 h3 => ?_⟩, fun y c e => ?_, I.hok.fresh (Nat.le_refl _), fun y c e => (split y c e).elim (fun q => I.freeC y c (L.sub y c q)) fun q => I.hok.fresh (Nat.le_of_succ_le q), fun p hp => ?_, I.hok.kept kp, ?_⟩
  · have hy' : (cl.lookup y).isNone = true := hy
    rcases split y c e with q | q
    · rw [q] at hy'
      cases hy'
    · exact Nat.le_of_succ_le q
  · rcases (hfp b (hex b z)).2.2.2.1 with q | q
    · exact I.ok.noex b o e q
    · exact absurd (Nat.lt_of_lt_of_le (Heap.lt_size (I.ok.bs b o e).1) q) (Nat.lt_irrefl _)
  · exact stk b (hfp b (hex b z)).2.1 (hfp b (hex b z)).2.2.1
  · have h1' : (own ++ fr.map fun j => X.N.getD j "")[i]? = some y := h1
    have h2' : (own.map (fun _ => none) ++ fr.map fun j => (σ[j]?).join)[i]? = some (some v) := h2
    by_cases hi : i < own.length
    · rw [List.getElem?_append_left (by simpa using hi), List.getElem?_map] at h2'
      cases q : own[i]? with
      | none => rw [q] at h2'; cases h2'
      | some z => rw [q] at h2'; cases h2'
    · rw [List.getElem?_append_right (by omega), List.getElem?_map] at h1'
      rw [List.getElem?_append_right (by simpa using hi), List.getElem?_map, List.length_map] at h2'
      cases q : fr[i - own.length]? with
      | none => rw [q] at h1'; cases h1'
      | some j =>
        rw [q] at h1' h2'
        obtain ⟨y', n1, n2, n3, n4, c', e'⟩ := L.frN j (List.mem_of_getElem? q)
        have ey : y' = y := by
          have this : X.N.getD j "" = y := Option.some.inj h1'
          rw [getD_of n1] at this
          exact this
        subst ey
        have ev : σ[j]? = some (some v) := by
          have z : (σ[j]?).join = some v := Option.some.inj h2'
          cases q2 : σ[j]? with
          | none => rw [q2] at z; cases z
          | some o => rw [q2] at z; exact congrArg some z
        obtain ⟨m, _, hl⟩ := I.loc
        obtain ⟨u, r, l⟩ := hl j y' v n1 ev n3
        refine ⟨u, r, .inr ⟨n2, ?_⟩⟩
        rcases l with ⟨k, _⟩ | ⟨_, c, e, z⟩
        · exact absurd k n4
        · have := L.sub y' c' e'
          rw [e] at this
          cases this
          obtain ⟨o, ho, hd⟩ := z
          exact ⟨_, (cf_old _ _ _ y' fun z => by rw [L.cells y' z] at e'; cases e').trans e', o, kp _ o ho, hd⟩
  · rcases ncl y c e with q | q
    · obtain ⟨v, o, ho, hd⟩ := cellLt y c q
      exact ⟨v, o, kp c o ho, hd⟩
    · exact ⟨none, q⟩
  · have hp' : p ∈ X.pn ++ pins := by
      have z : p ∈ (X.pn ++ pins) ++ [] := hp
      simpa using z
    obtain ⟨e, n, ne, nf, d⟩ := I.pin p hp'
    exact ⟨kp _ _ e, n, noL e, stk _ ne nf, d⟩
  · show (own.map (fun _ => (none : Option V)) ++ fr.map fun j => (σ[j]?).join).length = (own ++ fr.map fun j => X.N.getD j "").length
    simp
theorem pe_lc {X : Cx} {elt tg iter : Expr} {ifs : List Expr} {sc : Scope} {cl : List (Str × Addr)} {own : List Str} {fr : List Nat} {pos : Pos} {wi : TI} {g : TG} {tt : TT} {te : TE}
    (L : LcScope X sc cl fr) (hc : X.calm = true) (hi : PI X tg iter wi)
    (hg : ∀ C s H ex pn, PG (cxLc X own fr sc cl C s H ex pn) tg g)
    (ht : ∀ C s H ex pn (pins : List (Addr × Obj)) (s1 : Shared) (σ1 : St) (H1 : Hp) (Q : Bool → Hp → Prop), Inv (cxLc X own fr sc cl C s H ex pn) pins σ1 H1 s1 → tt σ1 H1 Q →
      wpAny (model X.prog X.w) X.A (lcTests ifs (compEnvC sc (cellsFrom (C + 1) sc.names cl) C X.env)) (TP (cxLc X own fr sc cl C s H ex pn) pins σ1 Q) NoX s1)
    (he : ∀ C s H ex pn, PE (cxLc X own fr sc cl C s H ex pn) elt te) (hs : ∀ x, foldedSetIterable iter X.env x = pure x := by intro _; rfl) :
    PE X (.ListComp elt [⟨tg, iter, ifs, 0⟩] sc pos) (tLc wi g tt te own fr) := by
  intro pins s σ H Q I h
  rw [eval_ListComp]
  refine wpAny_comprehension_free (use := none) rfl hs L.clos L.kind L.names (thn (hi pins s σ H _ I h) fun v s1 h1 => thn h1 fun itv s2 h2 => ?_)
  obtain ⟨it, fp, tn, J, H2, e, I2, T, st2, f2, h2⟩ := h2
  subst e
  refine wpAny_newObj_type ?_
  have I3 : Inv X pins σ (upd H2 s2.heap.objs.size (.lst [])) { s2 with heap := s2.heap.push { cls := .type "list", data := .seq ([] : List Value).toArray } } := I2.lnew (t' := s2.toks) .nil (Nat.zero_le _)
  have n2 : H2 s2.heap.objs.size = none := I2.fresh
  obtain ⟨W, ⟨m0, w0⟩, turn⟩ := h2 _ n2
  have lt2 : ∀ b ∈ fp, b < s2.heap.objs.size := fun b hb => by
    obtain ⟨o, eo, _⟩ := T.obj 0 _ st2 b hb
    exact Heap.lt_size eo
  have fp3 : ∀ b ∈ fp, FpOk X pins (upd H2 s2.heap.objs.size (.lst [])) b := fun b hb => ⟨by rw [upd_ne (Nat.ne_of_lt (lt2 b hb))]; exact (f2 b hb).1, (f2 b hb).2⟩
  generalize hs3 : ({ s2 with heap := s2.heap.push { cls := .type "list", data := .seq ([] : List Value).toArray } } : Shared) = s3 at I3
  have st3 : tn 0 s3.heap := by
    rw [← hs3]
    exact T.keep 0 _ _ st2 fun b hb o eo => Heap.get?_push_of_some _ eo
  have lt3 : ∀ b ∈ fp, b < s3.heap.objs.size := fun b hb => by
    obtain ⟨o, eo, _⟩ := T.obj 0 _ st3 b hb
    exact Heap.lt_size eo
  generalize hH3 : upd H2 s2.heap.objs.size (.lst []) = H3 at I3 fp3 w0
  generalize s2.heap.objs.size = acc at turn w0 hH3 ⊢
  refine newEnv_cells ?_
  have hns : (pushCells (s3.heap.push { cls := .type "dict", data := .dict #[] }) sc.names).Ns s3.heap.objs.size fun _ => none := (Heap.Ns.new s3.heap (.type "dict")).keeps (pushCells_keeps _ _)
  have kp : ∀ b o, s3.heap.get? b = some o → (pushCells (s3.heap.push { cls := .type "dict", data := .dict #[] }) sc.names).get? b = some o := fun b o eo => pushCells_keeps _ _ b o (Heap.get?_push_of_some _ eo)
  have ncl : ∀ y c, (cellsFrom (s3.heap.objs.size + 1) sc.names cl).lookup y = some c → cl.lookup y = some c ∨ (pushCells (s3.heap.push { cls := .type "dict", data := .dict #[] }) sc.names).IsCell c none := fun y c e =>
    cf_cell sc.names (s3.heap.push { cls := .type "dict", data := .dict #[] }) cl y c (by rw [Heap.size_push]; exact e)
  generalize hh4 : pushCells (s3.heap.push { cls := .type "dict", data := .dict #[] }) sc.names = h4 at hns kp ncl
  have I4 := lcInv (own := own) (tk := s3.toks) L I3 fp3 lt3 hns kp ncl
  have st4 : tn 0 h4 := T.keep 0 _ _ st3 fun b hb o eo => kp b o eo
  have stat : ∀ {H' : Hp}, (∀ b ∈ fp, H' b = none) → ∀ b ∈ fp, FpOk (cxLc X own fr sc cl s3.heap.objs.size s3 H3 fp (X.pn ++ pins)) [] H' b := fun {H'} hn b hb =>
    ⟨hn b hb, Nat.ne_of_lt (lt3 b hb), fun z => (List.mem_cons.mp (I3.stkSub b z)).elim (fp3 b hb).2.1 (fp3 b hb).2.2.1, .inl hb, fun y c e => (cf_lookup _ _ _ y c e).elim (fun q => (fp3 b hb).2.2.2.2.1 y c (L.sub y c q)) fun q => Nat.ne_of_gt (Nat.lt_of_lt_of_le (lt3 b hb) (Nat.le_of_succ_le q.1)), fun p hp => (fp3 b hb).2.2.2.2.2 p (by
      have z : p ∈ (X.pn ++ pins) ++ [] := hp
      simpa using z)⟩
  have loop : codeAny (model X.prog X.w) X.A (.compLoop (.ListComp elt [⟨tg, iter, ifs, 0⟩] sc pos) 0 (.ref it) (.ref acc) (compEnvC sc (cellsFrom (s3.heap.objs.size + 1) sc.names cl) s3.heap.objs.size X.env))
      (compPost (model X.prog X.w) X.A X.xe none (EP X pins σ Q) (.ref acc) s3.heap.objs.size) { s3 with heap := h4, toks := s3.toks } := by
    refine lcLoop (fun n s' => ∃ i ys σ1 H1, Inv (cxLc X own fr sc cl s3.heap.objs.size s3 H3 fp (X.pn ++ pins)) [] σ1 H1 s' ∧ tn i s'.heap ∧ (∀ b ∈ fp, H1 b = none) ∧ W i n ys σ1 H1) ?_ m0 ⟨0, [], _, H3, I4, st4, fun b hb => (fp3 b hb).1, w0⟩
    rintro n s5 ⟨i, ys, σ5, H5, I5, st5, fr5, w5⟩
    obtain ⟨hacc, hlen, hh⟩ := turn i n ys σ5 H5 w5
    rcases hh with ⟨stop, qn⟩ | ⟨go, N, hN, step⟩
    · refine thn (T.done (cxLc X own fr sc cl s3.heap.objs.size s3 H3 fp (X.pn ++ pins)) rfl rfl rfl hc i [] s5 σ5 H5 NoX I5 (stat fr5) st5 stop) fun r s6 ⟨hr, I6⟩ => ?_
      subst hr
      obtain ⟨m6, ns6, _⟩ := id I6.loc
      refine ⟨m6, ns6, fun h7 sb7 => ⟨.ref acc, H5, ?_, rfl, qn⟩⟩
      have old : ∀ b o, s3.heap.get? b = some o → b ≠ s3.heap.objs.size := fun b o eo => Nat.ne_of_lt (Heap.lt_size eo)
      have u6 : Un (frs X.stack) fp H3 H5 s3.heap s6.heap := I6.base
      have u7 : Un (frs X.stack) fp H3 H5 s3.heap h7 :=
        ⟨fun b o eo nn hb hx => (sb7.2 b (old b o eo)).trans (u6.keep b o eo nn hb hx), fun b o eo nn hb hx => by
          obtain ⟨sl, q⟩ := u6.slot b o eo nn hb hx
          exact ⟨sl, (sb7.2 b (old b o eo)).trans q⟩, u6.free, fun b o eo hx => by
          obtain ⟨o', q⟩ := u6.there b o eo hx
          exact ⟨o', (sb7.2 b (old b o eo)).trans q⟩, u6.tups, u6.frzs, u6.tbls⟩
      have fC : H5 s3.heap.objs.size = none := I6.free
      have hok7 : HOk X.prog X.w H5 h7 := fun b ob eb => by
        refine (I6.hok b ob eb).stay (fun c w' hc' q => (sb7.2 c ?_).trans q) (fun _ q => q) fun _ _ q => q
        rintro rfl
        rcases hc' with z | z
        · rw [← z, fC] at eb; cases eb
        · rw [fC] at z; cases z
      exact I3.call' (s' := { s6 with heap := h7 }) I6.os u7 hok7 I6.bare fun b hb => ⟨(fp3 b hb).2.2.2.1, (fp3 b hb).2.1, (fp3 b hb).2.2.2.2.1, (fp3 b hb).2.2.2.2.2⟩
    · refine thn (T.item (cxLc X own fr sc cl s3.heap.objs.size s3 H3 fp (X.pn ++ pins)) rfl rfl rfl hc i [] s5 σ5 H5 NoX I5 (stat fr5) st5 go) fun r s6 ⟨u, hr, h6⟩ => ?_
      subst hr
      refine thn h6 fun _ s7 ⟨x, H7, I7, r7, y7, st7, fr7⟩ => ?_
      have I7' := I7.pinned (stat fr7) (T.obj _ _ st7)
      refine thn (hg _ _ _ _ _ _ s7 σ5 H7 x u _ I7' r7 (step x H7 y7)) fun _ s8 ⟨σ8, H8, I8, q8⟩ => ?_
      have again : ∀ {zs : List V} {σ9 : St} {H9 : Hp} {s9 : Shared}, Inv (cxLc X own fr sc cl s3.heap.objs.size s3 H3 fp (X.pn ++ pins)) ([] ++ pinsAt fp s7.heap) σ9 H9 s9 → N zs σ9 H9 →
          ∃ m, m < n ∧ ∃ i ys σ1 H1, Inv (cxLc X own fr sc cl s3.heap.objs.size s3 H3 fp (X.pn ++ pins)) [] σ1 H1 s9 ∧ tn i s9.heap ∧ (∀ b ∈ fp, H1 b = none) ∧ W i m ys σ1 H1 := fun {zs σ9 H9 s9} I9 n9 => by
        obtain ⟨m', hm, w9⟩ := hN zs σ9 H9 n9
        refine ⟨m', hm, i + 1, zs, σ9, H9, I9.unpinned, T.keep _ _ _ st7 fun b hb o e => (I9.pin (b, o) (List.mem_append_right _ (List.mem_append_right _ (mem_pinsAt hb e)))).1, fun b hb => ?_, w9⟩
        obtain ⟨o, e, d⟩ := T.obj _ _ st7 b hb
        exact (I9.pin (b, o) (List.mem_append_right _ (List.mem_append_right _ (mem_pinsAt hb e)))).2.1
      refine thn (ht _ _ _ _ _ _ s8 σ8 H8 _ I8 q8) fun ok s9 ⟨H9, I9, q9⟩ => ?_
      cases ok with
      | false => exact again I9 (by simpa using q9)
      | true =>
        refine thn (he _ _ _ _ _ _ s9 σ8 H9 _ I9 q9) fun z s10 ⟨y, H10, I10, r10, a10, q10⟩ => ?_
        refine thn (mt_append _ s10 σ8 H10 (.ref acc) [y] (.ref acc) [z] (fun _ H' => N (ys ++ [y]) σ8 H') I10 rfl (.cons r10 .nil) ⟨acc, ys, y, rfl, rfl, a10, hlen, q10⟩) fun _ s11 ⟨_, H11, I11, _, q11⟩ => again I11 q11
  rw [← hs3] at loop ⊢
  exact codeAny_compStart_list loop (noX (T.self _ 0 _ _ _ st4 (by rw [hs3]; rw [hs3] at loop; exact loop)))
end L2
namespace L2
open PySem PySem.Spec PyProof.Rows
theorem log2_of {n : Int} {k : Nat} (h : n.natAbs < 2 ^ k) (hk : 0 < k) : n.natAbs.log2 < k := by
  by_cases z : n.natAbs = 0
  · rw [z]
    show Nat.log2 0 < k
    rw [Nat.log2_zero]
    exact hk
  · exact (Nat.log2_lt z).mpr h
section
variable {X : Cx}
def CMulB (i j : Int) : Prop := i.natAbs < 2 ^ 8000 ∧ j.natAbs < 2 ^ 8000
theorem op_mulB : OpR X (binaryOp .Mult) (rI CMulB fun i j => .int (i * j)) := opI fun _ _ _ _ _ _ _ hc q =>
  mul_int q (IntMulOk.of_le (intBits_le_iff.mpr hc.1) (intBits_le_iff.mpr hc.2) (by decide))
def CDivB (_ j : Int) : Prop := 0 < j ∧ j.natAbs < 2 ^ 8000
theorem op_fdivB : OpR X (binaryOp .FloorDiv) (rI CDivB fun i j => .int (i / j)) := opI fun i j _ _ _ _ _ hc q => by
  have h1 : (0 : Int) < j := hc.1
  refine floordiv_int (by omega) (by rw [Int.fdiv_eq_ediv_of_nonneg i (by omega)]; exact q) (.inl (PyProof.noPylong_of_log2 ?_))
  exact Nat.lt_trans (log2_of hc.2 (by decide)) (by decide)
theorem vals_intItems : ∀ {ns : List Int} {its : List Value}, Vals (ns.map V.int) its → ∃ xs : List (Int × Tok), its = xs.map (fun p => Value.int p.1 p.2) ∧ xs.map (·.1) = ns
  | [], _, .nil => ⟨[], rfl, rfl⟩
  | n :: ns, _, .cons r t => by
    obtain ⟨tk, rfl⟩ := r
    obtain ⟨xs, rfl, rfl⟩ := vals_intItems t
    exact ⟨(n, tk) :: xs, rfl, rfl⟩
def rSum (K : PySem.W.Frag) : List V → Hp → VK → Prop := fun xs H Q => ∃ (p : Addr) (ns : List Int), xs = [.ref p] ∧ SqL K H p (ns.map V.int) ∧ Q (.int ns.sum) H
theorem call_sum (hc : X.calm = true) : CallR X (.builtin "sum") (rSum X.K) := by
  intro pins s σ H xs us Q I r h
  obtain ⟨p, ns, rfl, hq, q⟩ := h
  cases r with
  | cons r1 rr =>
    cases rr
    cases r1
    obtain ⟨its, rv, pl, hz⟩ := I.list hq
    obtain ⟨zs, rfl, rfl⟩ := vals_intItems rv
    refine PySem.sum_intListG (xs := zs.toArray) (I.ok.hd hc) (by simpa [PySem.intItems] using pl.isList) fun h' tk t' hk => ⟨.int _, H, I.kept (t' := tk) hk, ⟨t', rfl⟩, ?_⟩
    rw [PySem.preSum_eq, List.take_of_length_le (by simp)]
    exact q
end
end L2
namespace L2
open PySem PySem.Spec PyProof.Rows
inductive Dv where
  | fl (v : V)
  | lst (ds : List Dv)
  | tup (ds : List Dv)
mutual
noncomputable def eqD : Dv → Dv → Bool
  | .fl x, .fl y => eqV x y
  | .lst a, .lst b => eqDs a b
  | .tup a, .tup b => eqDs a b
  | _, _ => false
noncomputable def eqDs : List Dv → List Dv → Bool
  | [], [] => true
  | x :: r, y :: q => eqD x y && eqDs r q
  | _, _ => false
end
mutual
noncomputable def dpD : Dv → Nat
  | .fl _ => 0
  | .lst a => dpDs a + 1
  | .tup a => dpDs a + 1
noncomputable def dpDs : List Dv → Nat
  | [] => 0
  | x :: r => max (dpD x) (dpDs r)
end
mutual
noncomputable def Hv (K : PySem.W.Frag) (H : Hp) : Dv → V → Prop
  | .fl v, x => x = v ∧ flatV v = true
  | .lst ds, x => ∃ a xs, x = .ref a ∧ SqL K H a xs ∧ HvL K H ds xs
  | .tup ds, x => ∃ a xs, x = .ref a ∧ SqT K H a xs ∧ HvL K H ds xs
noncomputable def HvL (K : PySem.W.Frag) (H : Hp) : List Dv → List V → Prop
  | [], xs => xs = []
  | d :: ds, xs => ∃ x r, xs = x :: r ∧ Hv K H d x ∧ HvL K H ds r
end
theorem eqV_refl {v : V} (h : flatV v = true) : eqV v v = true := by
  cases v <;> first | rfl | (simp [eqV]; done) | (exact absurd h (by decide)) | (cases h)
section
variable {X : Cx} {pins : List (Addr × Obj)} {σ : St} {H : Hp} {s : Shared}
theorem not_both (I : Inv X pins σ H s) {a : Addr} {xs ys : List V} (h1 : SqL X.K H a xs) (h2 : SqT X.K H a ys) : False := by
  obtain ⟨i1, _, p1, _⟩ := I.list h1
  obtain ⟨i2, _, p2, _⟩ := I.tuple h2
  exact SeqAt.ne_of_list_tuple p1.isList p2 rfl
mutual
theorem same_eq (I : Inv X pins σ H s) : ∀ (d e : Dv) (x : V), Hv X.K H d x → Hv X.K H e x → eqD d e = true
  | .fl v, .fl w, x, h1, h2 => by
    obtain ⟨rfl, f⟩ := h1
    obtain ⟨rfl, _⟩ := h2
    exact eqV_refl f
  | .fl v, .lst es, x, h1, h2 => by
    obtain ⟨rfl, f⟩ := h1
    obtain ⟨a, xs, rfl, _⟩ := h2
    cases f
  | .fl v, .tup es, x, h1, h2 => by
    obtain ⟨rfl, f⟩ := h1
    obtain ⟨a, xs, rfl, _⟩ := h2
    cases f
  | .lst ds, .fl v, x, h2, h1 => by
    obtain ⟨rfl, f⟩ := h1
    obtain ⟨a, xs, rfl, _⟩ := h2
    cases f
  | .tup ds, .fl v, x, h2, h1 => by
    obtain ⟨rfl, f⟩ := h1
    obtain ⟨a, xs, rfl, _⟩ := h2
    cases f
  | .lst ds, .lst es, x, h1, h2 => by
    obtain ⟨a, xs, rfl, q, r⟩ := h1
    obtain ⟨b, ys, e, q', r'⟩ := h2
    cases e
    have := I.list_inj q q'
    subst this
    exact same_eqs I ds es xs r r'
  | .tup ds, .tup es, x, h1, h2 => by
    obtain ⟨a, xs, rfl, q, r⟩ := h1
    obtain ⟨b, ys, e, q', r'⟩ := h2
    cases e
    have := I.tuple_inj q q'
    subst this
    exact same_eqs I ds es xs r r'
  | .lst ds, .tup es, x, h1, h2 => by
    obtain ⟨a, xs, rfl, q, r⟩ := h1
    obtain ⟨b, ys, e, q', r'⟩ := h2
    cases e
    exact (not_both I q q').elim
  | .tup ds, .lst es, x, h1, h2 => by
    obtain ⟨a, xs, rfl, q, r⟩ := h1
    obtain ⟨b, ys, e, q', r'⟩ := h2
    cases e
    exact (not_both I q' q).elim
theorem same_eqs (I : Inv X pins σ H s) : ∀ (ds es : List Dv) (xs : List V), HvL X.K H ds xs → HvL X.K H es xs → eqDs ds es = true
  | [], [], _, _, _ => rfl
  | [], e :: es, xs, h1, h2 => by
    obtain rfl : xs = [] := h1
    obtain ⟨x, r, z, _⟩ := h2
    cases z
  | d :: ds, [], xs, h1, h2 => by
    obtain rfl : xs = [] := h2
    obtain ⟨x, r, z, _⟩ := h1
    cases z
  | d :: ds, e :: es, xs, h1, h2 => by
    obtain ⟨x, r, rfl, a, b⟩ := h1
    obtain ⟨x', r', z, a', b'⟩ := h2
    cases z
    show (eqD d e && eqDs ds es) = true
    rw [same_eq I d e x a a', same_eqs I ds es r b b']
    rfl
end
theorem HvL.length {K : PySem.W.Frag} {H : Hp} : ∀ {ds : List Dv} {xs : List V}, HvL K H ds xs → ds.length = xs.length
  | [], xs, h => by
    obtain rfl : xs = [] := h
    rfl
  | d :: ds, xs, h => by
    obtain ⟨x, r, rfl, _, b⟩ := h
    rw [List.length_cons, List.length_cons, HvL.length b]
theorem eqDs_len : ∀ {ds es : List Dv}, ds.length ≠ es.length → eqDs ds es = false
  | [], [], h => absurd rfl h
  | [], _ :: _, _ => rfl
  | _ :: _, [], _ => rfl
  | d :: ds, e :: es, h => by
    show (eqD d e && eqDs ds es) = false
    rw [eqDs_len (ds := ds) (es := es) (by simpa using h), Bool.and_false]
def eqAtI (ds es : List Dv) (j : Nat) : Bool := match ds[j]?, es[j]? with
  | some d, some e => eqD d e
  | _, _ => false
theorem all_eqAtI : ∀ {ds es : List Dv}, ds.length = es.length → (List.range ds.length).all (eqAtI ds es) = eqDs ds es
  | [], [], _ => rfl
  | [], _ :: _, h => by cases h
  | _ :: _, [], h => by cases h
  | d :: ds, e :: es, h => by
    rw [List.length_cons, List.range_succ_eq_map, List.all_cons, List.all_map]
    show (eqD d e && (List.range ds.length).all (eqAtI (d :: ds) (e :: es) ∘ Nat.succ)) = (eqD d e && eqDs ds es)
    congr 1
    exact all_eqAtI (ds := ds) (es := es) (by simpa using h)
mutual
theorem eqAt_D (I : Inv X pins σ H s) : ∀ (d e : Dv) (A : Around) (x y : V) (u v : Value), A.units + dpD d < cLine → Hv X.K H d x → Hv X.K H e y → RelV x u → RelV y v → SeqAt.EqAt A s u v (eqD d e)
  | .fl a, .fl b, A, x, y, u, v, hu, h1, h2, rx, ry => by
    obtain ⟨rfl, f1⟩ := h1
    obtain ⟨rfl, f2⟩ := h2
    exact eqAt_V rx ry f1 f2
  | .fl a, .lst es, A, x, y, u, v, hu, h1, h2, rx, ry => by
    obtain ⟨rfl, f1⟩ := h1
    obtain ⟨b, ys, rfl, q, r⟩ := h2
    cases ry
    obtain ⟨its, _, pl, _⟩ := I.list q
    have hu' : A.units < cLine := hu
    cases x with
    | non => cases rx; exact SeqAt.EqAt.none_list pl.isList hu'
    | bl c => cases rx; exact SeqAt.EqAt.bool_list c pl.isList hu'
    | int c => obtain ⟨t, rfl⟩ := rx; exact SeqAt.EqAt.int_list c t pl.isList hu'
    | str c => obtain ⟨t, rfl⟩ := rx; exact SeqAt.EqAt.str_list c t pl.isList hu'
    | _ => cases f1
  | .fl a, .tup es, A, x, y, u, v, hu, h1, h2, rx, ry => by
    obtain ⟨rfl, f1⟩ := h1
    obtain ⟨b, ys, rfl, q, r⟩ := h2
    cases ry
    obtain ⟨its, _, pl, _⟩ := I.tuple q
    have hu' : A.units < cLine := hu
    cases x with
    | non => cases rx; exact SeqAt.EqAt.none_tuple pl hu'
    | bl c => cases rx; exact SeqAt.EqAt.bool_tuple c pl hu'
    | int c => obtain ⟨t, rfl⟩ := rx; exact SeqAt.EqAt.int_tuple c t pl hu'
    | str c => obtain ⟨t, rfl⟩ := rx; exact SeqAt.EqAt.str_tuple c t pl hu'
    | _ => cases f1
  | .lst ds, .fl b, A, x, y, u, v, hu, h1, h2, rx, ry => by
    obtain ⟨rfl, f2⟩ := h2
    obtain ⟨a, xs, rfl, q, r⟩ := h1
    cases rx
    obtain ⟨its, _, pl, _⟩ := I.list q
    have hu' : A.units < cLine := Nat.lt_of_le_of_lt (Nat.le_add_right _ _) hu
    cases y with
    | non => cases ry; exact SeqAt.EqAt.list_none pl.isList hu'
    | bl c => cases ry; exact SeqAt.EqAt.list_bool c pl.isList hu'
    | int c => obtain ⟨t, rfl⟩ := ry; exact SeqAt.EqAt.list_int c t pl.isList hu'
    | str c => obtain ⟨t, rfl⟩ := ry; exact SeqAt.EqAt.list_str c t pl.isList hu'
    | _ => cases f2
  | .tup ds, .fl b, A, x, y, u, v, hu, h1, h2, rx, ry => by
    obtain ⟨rfl, f2⟩ := h2
    obtain ⟨a, xs, rfl, q, r⟩ := h1
    cases rx
    obtain ⟨its, _, pl, _⟩ := I.tuple q
    have hu' : A.units < cLine := Nat.lt_of_le_of_lt (Nat.le_add_right _ _) hu
    cases y with
    | non => cases ry; exact SeqAt.EqAt.tuple_none pl hu'
    | bl c => cases ry; exact SeqAt.EqAt.tuple_bool c pl hu'
    | int c => obtain ⟨t, rfl⟩ := ry; exact SeqAt.EqAt.tuple_int c t pl hu'
    | str c => obtain ⟨t, rfl⟩ := ry; exact SeqAt.EqAt.tuple_str c t pl hu'
    | _ => cases f2
  | .lst ds, .tup es, A, x, y, u, v, hu, h1, h2, rx, ry => by
    obtain ⟨a, xs, rfl, q, r⟩ := h1
    obtain ⟨b, ys, rfl, q', r'⟩ := h2
    cases rx
    cases ry
    obtain ⟨_, _, p1, _⟩ := I.list q
    obtain ⟨_, _, p2, _⟩ := I.tuple q'
    exact SeqAt.EqAt.list_tuple p1.isList p2 (Nat.lt_of_le_of_lt (Nat.le_add_right _ _) hu)
  | .tup ds, .lst es, A, x, y, u, v, hu, h1, h2, rx, ry => by
    obtain ⟨a, xs, rfl, q, r⟩ := h1
    obtain ⟨b, ys, rfl, q', r'⟩ := h2
    cases rx
    cases ry
    obtain ⟨_, _, p1, _⟩ := I.tuple q
    obtain ⟨_, _, p2, _⟩ := I.list q'
    exact SeqAt.EqAt.tuple_list p1 p2.isList (Nat.lt_of_le_of_lt (Nat.le_add_right _ _) hu)
  | .lst ds, .lst es, A, x, y, u, v, hu, h1, h2, rx, ry => by
    obtain ⟨a, xs, rfl, q, r⟩ := id h1
    obtain ⟨b, ys, rfl, q', r'⟩ := id h2
    cases rx
    cases ry
    by_cases hab : a = b
    · subst hab
      rw [same_eq I _ _ _ h1 h2]
      exact SeqAt.EqAt.same _
    obtain ⟨i1, v1, p1, _⟩ := I.list q
    obtain ⟨i2, v2, p2, _⟩ := I.list q'
    have hu' : A.units < cLine := Nat.lt_of_le_of_lt (Nat.le_add_right _ _) hu
    have l1 := r.length
    have l2 := r'.length
    have m1 := v1.length
    have m2 := v2.length
    refine .of_refs hab ?_
    show SeqAt.RcAt A s (.ref a) (.ref b) (eqDs ds es)
    by_cases hl : ds.length = es.length
    · have z := SeqAt.RcAt.lists (e := eqAtI ds es) p1.isList p2.isList (by simp; omega) hu' (fun j g1 g2 => eqAt_Ds I ds es A.in1 xs ys i1 i2 (by show A.units + 1 + dpDs ds < cLine; have : A.units + (dpDs ds + 1) < cLine := hu; omega) r r' v1 v2 j (by simpa using g1) (by simpa using g2))
      rw [List.size_toArray, ← m1, ← l1, all_eqAtI hl] at z
      exact z
    · rw [eqDs_len hl]
      exact .lists_lengths p1.isList p2.isList (by simp; omega) hu'
  | .tup ds, .tup es, A, x, y, u, v, hu, h1, h2, rx, ry => by
    obtain ⟨a, xs, rfl, q, r⟩ := id h1
    obtain ⟨b, ys, rfl, q', r'⟩ := id h2
    cases rx
    cases ry
    by_cases hab : a = b
    · subst hab
      rw [same_eq I _ _ _ h1 h2]
      exact SeqAt.EqAt.same _
    obtain ⟨i1, v1, p1, _⟩ := I.tuple q
    obtain ⟨i2, v2, p2, _⟩ := I.tuple q'
    have hu' : A.units < cLine := Nat.lt_of_le_of_lt (Nat.le_add_right _ _) hu
    have l1 := r.length
    have l2 := r'.length
    have m1 := v1.length
    have m2 := v2.length
    refine .of_refs hab ?_
    show SeqAt.RcAt A s (.ref a) (.ref b) (eqDs ds es)
    have z := SeqAt.RcAt.tuples (e := eqAtI ds es) p1 p2 hu' (fun j g1 g2 => eqAt_Ds I ds es A.in1 xs ys i1 i2 (by show A.units + 1 + dpDs ds < cLine; have : A.units + (dpDs ds + 1) < cLine := hu; omega) r r' v1 v2 j (by simpa using g1) (by simpa using g2))
    have zz : ((List.range (min i1.toArray.size i2.toArray.size)).all (eqAtI ds es) && i1.toArray.size == i2.toArray.size) = eqDs ds es := by
      rw [List.size_toArray, List.size_toArray, ← m1, ← m2, ← l1, ← l2]
      by_cases hl : ds.length = es.length
      · rw [hl, Nat.min_self, ← hl, all_eqAtI hl]; simp [hl]
      · rw [eqDs_len hl, beq_eq_false_iff_ne.mpr hl, Bool.and_false]
    rw [zz] at z
    exact z
theorem eqAt_Ds (I : Inv X pins σ H s) : ∀ (ds es : List Dv) (A : Around) (xs ys : List V) (us vs : List Value), A.units + dpDs ds < cLine → HvL X.K H ds xs → HvL X.K H es ys → Vals xs us → Vals ys vs →
    ∀ (j : Nat) (h1 : j < us.length) (h2 : j < vs.length), SeqAt.EqAt A s us[j] vs[j] (eqAtI ds es j)
  | [], es, A, xs, ys, us, vs, hu, h1, h2, r1, r2, j, g1, g2 => by
    obtain rfl : xs = [] := h1
    cases r1
    exact absurd g1 (Nat.not_lt_zero _)
  | d :: ds, [], A, xs, ys, us, vs, hu, h1, h2, r1, r2, j, g1, g2 => by
    obtain rfl : ys = [] := h2
    cases r2
    exact absurd g2 (Nat.not_lt_zero _)
  | d :: ds, e :: es, A, xs, ys, us, vs, hu, h1, h2, r1, r2, j, g1, g2 => by
    obtain ⟨x, r, rfl, a, b⟩ := h1
    obtain ⟨y, q, rfl, a', b'⟩ := h2
    cases r1 with
    | cons c1 t1 => cases r2 with
      | cons c2 t2 =>
        have hm : dpDs (d :: ds) = max (dpD d) (dpDs ds) := rfl
        rw [hm] at hu
        cases j with
        | zero => exact eqAt_D I d e A x y _ _ (Nat.lt_of_le_of_lt (Nat.add_le_add_left (Nat.le_max_left _ _) _) hu) a a' c1 c2
        | succ j => exact eqAt_Ds I ds es A r q _ _ (Nat.lt_of_le_of_lt (Nat.add_le_add_left (Nat.le_max_right _ _) _) hu) b b' t1 t2 j (by simpa using g1) (by simpa using g2)
end
def rEqS (K : PySem.W.Frag) (neg : Bool) : R2 := fun x y H Q => ∃ d e, ((∃ ds es, d = .lst ds ∧ e = .lst es) ∨ ∃ ds es, d = .tup ds ∧ e = .tup es) ∧ Hv K H d x ∧ Hv K H e y ∧ dpD d ≤ 50 ∧ Q (.bl (if neg then !eqD d e else eqD d e)) H
theorem op_eqS (hr : X.A.units + 64 < cLine) : OpR X (compareOp .Eq) (rEqS X.K false) := by
  intro pins s σ H x y v u Q I rx ry h
  obtain ⟨d, e, hk, h1, h2, hd, q⟩ := h
  have hu' : X.A.units < cLine := by omega
  rcases hk with ⟨ds, es, rfl, rfl⟩ | ⟨ds, es, rfl, rfl⟩
  · obtain ⟨a, xs, rfl, q1, r⟩ := h1
    obtain ⟨b, ys, rfl, q2, r'⟩ := h2
    cases rx
    cases ry
    obtain ⟨i1, v1, p1, _⟩ := I.list q1
    obtain ⟨i2, v2, p2, _⟩ := I.list q2
    have l1 := r.length
    have l2 := r'.length
    have m1 := v1.length
    have m2 := v2.length
    have hd' : dpDs ds + 1 ≤ 50 := hd
    by_cases hl : ds.length = es.length
    · refine SeqAt.eq_listAt (e := eqAtI ds es) p1.isList p2.isList (by simp; omega) hu' (fun j g1 g2 => eqAt_Ds I ds es X.A.in1 xs ys i1 i2 (by show X.A.units + 1 + dpDs ds < cLine; omega) r r' v1 v2 j (by simpa using g1) (by simpa using g2)) ?_
      rw [List.size_toArray, ← m1, ← l1, all_eqAtI hl]
      exact ⟨.bl _, H, I, rfl, q⟩
    · refine SeqAt.eq_list_lengthsAt p1.isList p2.isList (by simp; omega) hu' ⟨.bl _, H, I, rfl, ?_⟩
      have z : eqD (.lst ds) (.lst es) = false := eqDs_len hl
      rw [z] at q
      exact q
  · obtain ⟨a, xs, rfl, q1, r⟩ := h1
    obtain ⟨b, ys, rfl, q2, r'⟩ := h2
    cases rx
    cases ry
    obtain ⟨i1, v1, p1, _⟩ := I.tuple q1
    obtain ⟨i2, v2, p2, _⟩ := I.tuple q2
    have l1 := r.length
    have l2 := r'.length
    have m1 := v1.length
    have m2 := v2.length
    have hd' : dpDs ds + 1 ≤ 50 := hd
    refine SeqAt.eq_tupleAt (e := eqAtI ds es) p1 p2 hu' (fun j g1 g2 => eqAt_Ds I ds es X.A.in1 xs ys i1 i2 (by show X.A.units + 1 + dpDs ds < cLine; omega) r r' v1 v2 j (by simpa using g1) (by simpa using g2)) ⟨.bl _, H, I, rfl, ?_⟩
    have zz : ((List.range (min i1.toArray.size i2.toArray.size)).all (eqAtI ds es) && i1.toArray.size == i2.toArray.size) = eqDs ds es := by
      rw [List.size_toArray, List.size_toArray, ← m1, ← m2, ← l1, ← l2]
      by_cases hl : ds.length = es.length
      · rw [hl, Nat.min_self, ← hl, all_eqAtI hl]; simp [hl]
      · rw [eqDs_len hl, beq_eq_false_iff_ne.mpr hl, Bool.and_false]
    rw [zz]
    exact q
theorem op_neS (hr : X.A.units + 64 < cLine) : OpR X (compareOp .NotEq) (rEqS X.K true) := by
  intro pins s σ H x y v u Q I rx ry h
  obtain ⟨d, e, hk, h1, h2, hd, q⟩ := h
  have hu' : X.A.units < cLine := by omega
  rcases hk with ⟨ds, es, rfl, rfl⟩ | ⟨ds, es, rfl, rfl⟩
  · obtain ⟨a, xs, rfl, q1, r⟩ := h1
    obtain ⟨b, ys, rfl, q2, r'⟩ := h2
    cases rx
    cases ry
    obtain ⟨i1, v1, p1, _⟩ := I.list q1
    obtain ⟨i2, v2, p2, _⟩ := I.list q2
    have l1 := r.length
    have l2 := r'.length
    have m1 := v1.length
    have m2 := v2.length
    have hd' : dpDs ds + 1 ≤ 50 := hd
    by_cases hl : ds.length = es.length
    · refine SeqAt.RcNeAt.lists (e := eqAtI ds es) p1.isList p2.isList (by simp; omega) hu' (fun j g1 g2 => eqAt_Ds I ds es X.A.in1 xs ys i1 i2 (by show X.A.units + 1 + dpDs ds < cLine; omega) r r' v1 v2 j (by simpa using g1) (by simpa using g2)) _ _ _ _ ?_
      rw [List.size_toArray, ← m1, ← l1, all_eqAtI hl]
      exact ⟨.bl _, H, I, rfl, q⟩
    · refine SeqAt.RcNeAt.lists_lengths p1.isList p2.isList (by simp; omega) hu' _ _ _ _ ⟨.bl _, H, I, rfl, ?_⟩
      have z : eqD (.lst ds) (.lst es) = false := eqDs_len hl
      rw [z] at q
      exact q
  · obtain ⟨a, xs, rfl, q1, r⟩ := h1
    obtain ⟨b, ys, rfl, q2, r'⟩ := h2
    cases rx
    cases ry
    obtain ⟨i1, v1, p1, _⟩ := I.tuple q1
    obtain ⟨i2, v2, p2, _⟩ := I.tuple q2
    have l1 := r.length
    have l2 := r'.length
    have m1 := v1.length
    have m2 := v2.length
    have hd' : dpDs ds + 1 ≤ 50 := hd
    refine SeqAt.RcNeAt.tuples (e := eqAtI ds es) p1 p2 hu' (fun j g1 g2 => eqAt_Ds I ds es X.A.in1 xs ys i1 i2 (by show X.A.units + 1 + dpDs ds < cLine; omega) r r' v1 v2 j (by simpa using g1) (by simpa using g2)) _ _ _ _ ⟨.bl _, H, I, rfl, ?_⟩
    have zz : ((List.range (min i1.toArray.size i2.toArray.size)).all (eqAtI ds es) && i1.toArray.size == i2.toArray.size) = eqDs ds es := by
      rw [List.size_toArray, List.size_toArray, ← m1, ← m2, ← l1, ← l2]
      by_cases hl : ds.length = es.length
      · rw [hl, Nat.min_self, ← hl, all_eqAtI hl]; simp [hl]
      · rw [eqDs_len hl, beq_eq_false_iff_ne.mpr hl, Bool.and_false]
    rw [zz]
    exact q
end
end L2
namespace L2
open PySem PySem.Spec PyProof.Rows
structure FunD (K : PySem.W.Frag) (x qual : Str) (st : Stmt) (dV : Value) (f : Addr) (fd : FuncData) : Prop where
  ex : ∃ (oc : Value) (od : Option Addr) (kV doc pm : Value) (an : Option Addr) (cdv ct : Value) (osl : Array (Option Value)),
    fd = PySem.W.fnOf x qual (defArgs st) (defBody st) (defScope st) dV kV doc pm an cdv ct ∧ K.lookup f = some ⟨oc, od, .func fd, osl⟩ ∧ PySem.W.codeIn K cdv qual = true
  kp : PySem.W.keepIn K (.ref f) = true
structure Kn (P : Program) (w : World) (K : PySem.W.Frag) (mg : Str → Option Value) (base : Heap) (CX : CXT) (k : Nat) (x : Str) (f : Addr) (fd : FuncData) (ps : List Str) (sp : Sp) : Prop where
  ok : FnOk P w K mg base CX k f fd ps sp
  mgx : mg x = some (.ref f)
  kp : PySem.W.keepIn K (.ref f) = true
  bd : Binds K fd ps []
section
variable {P : Program} {w : World} {K : PySem.W.Frag} {mg : Str → Option Value} {base : Heap}
theorem FunD.ok {x qual : Str} {st : Stmt} {dV : Value} {f : Addr} {fd : FuncData} {N ps : List Str} {k : Nat} {sp : Sp} (F : FunD K x qual st dV f fd) (S : FnScope N ps (defScope st)) (len : ∀ vs H Q E, sp vs H Q E → vs.length = ps.length)
    (hbody : ∀ (cdv : Value) (A : Around) (outer : List Env) (s : Shared) (H : Hp) (vs : List V) (Q : VK) (E : XK), Room k (A.deeper (envOfC qual (defScope st) s.heap.objs.size f cdv)) → sp vs H Q E →
      ∃ t, PSs (cxOf CX0 P w K mg base N qual (defScope st) f cdv A outer s H E).nox (defBody st) t ∧ t { nx := fun _ H' => Q .non H', rt := Q } (start N vs) H) : FnOk P w K mg base CX0 (k + 1) f fd ps sp := by
  obtain ⟨oc, od, kV, doc, pm, an, cdv, ct, osl, rfl, lk, hcd⟩ := F.ex
  refine fn_of lk hcd S len fun A outer s H vs Q E hr hsp => ?_
  obtain ⟨t, h, q⟩ := hbody cdv A outer s H vs Q E hr hsp
  exact ⟨t, h.nox, q⟩
theorem funD_mk {x qual : Str} {st : Stmt} {dV : Value} {f : Addr} {oc : Value} {od an : Option Addr} {osl : Array (Option Value)} {kV doc pm cdv ct : Value} (l : K.lookup f = some ⟨oc, od, .func (PySem.W.fnOf x qual (defArgs st) (defBody st) (defScope st) dV kV doc pm an cdv ct), osl⟩)
    (c : PySem.W.codeIn K cdv qual = true) (k : PySem.W.keepIn K (.ref f) = true) : FunD K x qual st dV f (PySem.W.fnOf x qual (defArgs st) (defBody st) (defScope st) dV kV doc pm an cdv ct) := ⟨⟨oc, od, kV, doc, pm, an, cdv, ct, osl, rfl, l, c⟩, k⟩
end
section
variable {X : Cx} {CX : CXT} {k : Nat} {f : Addr} {fd : FuncData} {ps : List Str} {sp : Sp} {E : XK} {x : Str} {p pos : Pos} {e : Expr} {es : List Expr} {t : TA}
theorem pe_kn (F : Kn X.prog X.w X.K X.mg X.base CX0 k x f fd ps sp) (hr : Room k X.A) (hg : Gl X x) (ha : PA X (e :: es) t) (hdb : (x == ("__debug__" : Str)) = false := by decide)
    (he : starEach (e :: es) X.env = (false, eval e X.env) :: starEach es X.env := by rfl) (hpl : (backTo pos (starEach es X.env)).any (·.1) = false := by rfl) :
    PE X (.Call (.Name x p) (e :: es) [] pos) (tCall sp [] E0 t) := pe_call F.ok hr hg F.mgx F.kp F.bd .nil pass0 ha hdb he hpl
end
section
variable {K : PySem.W.Frag} {g : TG} {tb : TS} {D : Ends} {σ : St} {H : Hp}
theorem tFor_list {tl : TE} {a : Addr} {xs : List V} (hl : tl σ H (fun x H1 => x = .ref a ∧ H1 = H)) (hm : ∀ Q : VK, Q (.ref a) H → tl σ H Q) (hx : SqL K H a xs) (Pv : Nat → St → Hp → Prop) (h0 : Pv 0 σ H) (hk : ∀ i σ H, i ≤ xs.length → Pv i σ H → SqL K H a xs)
    (hs : ∀ i x σ H, xs[i]? = some x → Pv i σ H → g x σ H fun σ2 H2 => tb { D with nx := Pv (i + 1), ct := Pv (i + 1), bk := D.nx } σ2 H2) (hd : ∀ σ H, Pv xs.length σ H → D.nx σ H) : tFor (iList K tl) g tb D σ H :=
  hm _ ⟨a, rfl, ⟨xs, hx⟩, for_list Pv h0 hk hs hd⟩
theorem tFor_name {j : Nat} {a : Addr} {xs : List V} (hj : σ[j]? = some (some (.ref a))) (hx : SqL K H a xs) (Pv : Nat → St → Hp → Prop) (h0 : Pv 0 σ H) (hk : ∀ i σ H, i ≤ xs.length → Pv i σ H → SqL K H a xs)
    (hs : ∀ i x σ H, xs[i]? = some x → Pv i σ H → g x σ H fun σ2 H2 => tb { D with nx := Pv (i + 1), ct := Pv (i + 1), bk := D.nx } σ2 H2) (hd : ∀ σ H, Pv xs.length σ H → D.nx σ H) : tFor (iList K (tVar j)) g tb D σ H :=
  ⟨_, hj, a, rfl, ⟨xs, hx⟩, for_list Pv h0 hk hs hd⟩
end
end L2
namespace L2
open PySem PySem.Spec PyProof.Rows
section
variable {Y : Cx} {c : Expr} {tt : TT}
theorem lc_t0 (pins : List (Addr × Obj)) (s1 : Shared) (σ1 : St) (H1 : Hp) (Q : Bool → Hp → Prop) (I : Inv Y pins σ1 H1 s1) (h : Q true H1) : wpAny (model Y.prog Y.w) Y.A (lcTests [] Y.env) (TP Y pins σ1 Q) NoX s1 :=
  wpAny_pure ⟨H1, I, h⟩
theorem lc_t1 (ht : PT Y c tt) (hx : Y.xe = NoX) (pins : List (Addr × Obj)) (s1 : Shared) (σ1 : St) (H1 : Hp) (Q : Bool → Hp → Prop) (I : Inv Y pins σ1 H1 s1) (h : tt σ1 H1 Q) : wpAny (model Y.prog Y.w) Y.A (lcTests [c] Y.env) (TP Y pins σ1 Q) NoX s1 := by
  have z := ht pins s1 σ1 H1 Q I h
  rw [hx] at z
  unfold lcTests
  rw [List.forIn_cons]
  simp only [if_true]
  refine wpAny_bind (wpAny_bind (thn z fun b s2 q => wpAny_pure ?_))
  exact wpAny_pure q
end
def tNoTest : TT := fun _ H Q => Q true H
section
variable {K : PySem.W.Frag} {g : TG} {tb : TS} {D : Ends} {σ : St} {H : Hp}
end
section
variable {X : Cx} {e st : Expr} {te ts : TE} {p2 pos : Pos}
end
section
variable {X : Cx}
end
end L2
namespace L2
open PySem
theorem bt_isinstance : bootBuiltins "isinstance" = some (.builtin "isinstance") := by decide +kernel
theorem bt_abs : bootBuiltins "abs" = some (.builtin "abs") := by decide +kernel
theorem bt_len : bootBuiltins "len" = some (.builtin "len") := by decide +kernel
theorem bt_sum : bootBuiltins "sum" = some (.builtin "sum") := by decide +kernel
theorem bt_sorted : bootBuiltins "sorted" = some (.builtin "sorted") := by decide +kernel
theorem bt_all : bootBuiltins "all" = some (.builtin "all") := by decide +kernel
theorem bt_any : bootBuiltins "any" = some (.builtin "any") := by decide +kernel
theorem bt_int : bootBuiltins "int" = some (.type "int") := by decide +kernel
theorem bt_bool : bootBuiltins "bool" = some (.type "bool") := by decide +kernel
theorem bt_list : bootBuiltins "list" = some (.type "list") := by decide +kernel
theorem bt_tuple : bootBuiltins "tuple" = some (.type "tuple") := by decide +kernel
theorem bt_zip : bootBuiltins "zip" = some (.type "zip") := by decide +kernel
theorem bt_enumerate : bootBuiltins "enumerate" = some (.type "enumerate") := by decide +kernel
end L2
namespace L2
open PySem PySem.Spec PyProof.Rows
def closF (cells : List (Str × Addr)) : List (Str × NameKind) → List (Str × Addr) → List (Str × Addr)
  | [], cs => cs
  | (n, k) :: r, cs => closF cells r (if k == .free then (n, (cells.lookup n).getD 0) :: cs else cs)
theorem clos_eq {sc : Scope} {env : Env} (h : ∀ p ∈ sc.names, p.2 = .free → ∃ c, env.cells.lookup p.1 = some c) : closureFor sc env = pure (closF env.cells sc.names []) := by
  have key : ∀ (names : List (Str × NameKind)) (cs : List (Str × Addr)), (∀ p ∈ names, p.2 = .free → ∃ c, env.cells.lookup p.1 = some c) →
      (forIn names cs fun x t => match x with
        | (name, kind) => if (kind == NameKind.free) = true then do
              let a ← cellOf env name
              pure (ForInStep.yield ((name, a) :: t))
            else pure (ForInStep.yield t)) = (pure (closF env.cells names cs) : Sem (List (Str × Addr))) := by
    intro names
    induction names with
    | nil => intro cs _; rfl
    | cons p r ih =>
      intro cs hp
      obtain ⟨n, k⟩ := p
      rw [List.forIn_cons]
      cases hk : k == NameKind.free with
      | true =>
        obtain ⟨c, hc⟩ := hp (n, k) (.head _) (beq_iff_eq.mp hk)
        have hc' : env.cells.lookup n = some c := hc
        have e1 : cellOf env n = pure c := by unfold cellOf; rw [hc']
        have e2 : closF env.cells ((n, k) :: r) cs = closF env.cells r ((n, c) :: cs) := by
          show closF env.cells r (if (k == NameKind.free) = true then _ else _) = _
          rw [hk, hc', if_pos rfl]
          rfl
        rw [e2, ← ih ((n, c) :: cs) fun q hq => hp q (.tail _ hq)]
        simp only [hk, if_true, e1]
        rfl
      | false =>
        have e2 : closF env.cells ((n, k) :: r) cs = closF env.cells r cs := by
          show closF env.cells r (if (k == NameKind.free) = true then _ else _) = _
          rw [hk, if_neg (by decide)]
        rw [e2, ← ih cs fun q hq => hp q (.tail _ hq)]
        simp only [hk, Bool.false_eq_true, if_false]
        rfl
  simp only [closureFor]
  rw [key sc.names [] h]
  rfl
theorem closF_sub {cells : List (Str × Addr)} : ∀ (names : List (Str × NameKind)) (cs : List (Str × Addr)), (∀ p ∈ names, p.2 = .free → ∃ c, cells.lookup p.1 = some c) → (∀ y c, cs.lookup y = some c → cells.lookup y = some c) →
    ∀ y c, (closF cells names cs).lookup y = some c → cells.lookup y = some c
  | [], _, _, h => h
  | (n, k) :: r, cs, hp, h => by
    refine closF_sub r _ (fun q hq => hp q (.tail _ hq)) fun y c e => ?_
    split at e
    · rename_i hk
      obtain ⟨c0, hc⟩ := hp (n, k) (.head _) (beq_iff_eq.mp hk)
      have hc' : cells.lookup n = some c0 := hc
      rw [List.lookup_cons] at e
      split at e
      · rename_i hy
        have : y = n := beq_iff_eq.mp hy
        subst this
        rw [hc'] at e
        cases e
        exact hc'
      · exact h y c e
    · exact h y c e
theorem closF_keep {cells : List (Str × Addr)} : ∀ (names : List (Str × NameKind)) (cs : List (Str × Addr)) (y : Str), (∃ c, cs.lookup y = some c) → ∃ c, (closF cells names cs).lookup y = some c
  | [], _, _, h => h
  | (n, k) :: r, cs, y, ⟨c, h⟩ => by
    refine closF_keep r _ y ?_
    split
    · rw [List.lookup_cons]
      split
      · exact ⟨_, rfl⟩
      · exact ⟨c, h⟩
    · exact ⟨c, h⟩
theorem closF_has {cells : List (Str × Addr)} : ∀ (names : List (Str × NameKind)) (cs : List (Str × Addr)) (y : Str), (y, NameKind.free) ∈ names → ∃ c, (closF cells names cs).lookup y = some c
  | [], _, _, h => nomatch h
  | (n, k) :: r, cs, y, h => by
    rcases List.mem_cons.mp h with e | h
    · have e1 : y = n := congrArg (·.1) e
      have e2 : NameKind.free = k := congrArg (·.2) e
      subst e1 e2
      refine closF_keep r _ _ ?_
      rw [if_pos (by decide), List.lookup_cons_self]
      exact ⟨_, rfl⟩
    · exact closF_has r _ y h
theorem mem_of_lookup {κ β : Type} [BEq κ] [LawfulBEq κ] {l : List (κ × β)} {y : κ} {k : β} (h : l.lookup y = some k) : (y, k) ∈ l := by
  induction l with
  | nil => cases h
  | cons p r ih =>
    obtain ⟨n, b⟩ := p
    rw [List.lookup_cons] at h
    split at h
    · rename_i hy
      have : y = n := beq_iff_eq.mp hy
      subst this
      cases h
      exact .head _
    · exact .tail _ (ih h)
section
variable {CX : CXT} {P : Program} {w : World} {K : PySem.W.Frag} {mg : Str → Option Value} {base : Heap} {N : List Str} {qual : Str} {sc0 : Scope} {f : Addr} {cd : Value} {A : Around} {outer : List Env} {s : Shared} {H : Hp} {E : XK} {XE : Value → Shared → Prop}
structure LcNames (N : List Str) (sc0 sc : Scope) (fr : List Nat) : Prop where
  kind : sc.kind = .function
  kind0 : sc0.kind = .function
  nocell : ∀ y ∈ sc.names, y.2 ≠ .cell
  loc : ∀ y ∈ sc.names, y.2 = .local → sc.names.lookup y.1 = some .local
  fre : ∀ y ∈ sc.names, y.2 = .free → sc0.names.lookup y.1 = some .cell
  frs : ∀ j ∈ fr, sc.names.lookup (N.getD j "") = some .free ∧ j < N.length
theorem lookup_relabel {env : Env} : ∀ {names : List (Str × NameKind)} {y : Str} {k : NameKind}, (names.map fun (n, k) => if (k == NameKind.free && env.scope.kind == .function && env.kindOf n == some .cell) then (n, NameKind.cell) else (n, k)).lookup y = some k →
    ∃ k0, names.lookup y = some k0 ∧ (k = k0 ∨ (k = .cell ∧ k0 = .free))
  | [], _, _, h => by cases h
  | (n, k0) :: r, y, k, h => by
    rw [List.map_cons] at h
    simp only at h
    split at h
    · rename_i hc
      rw [List.lookup_cons] at h ⊢
      split at h
      · cases h
        simp only [Bool.and_eq_true, beq_iff_eq] at hc
        exact ⟨k0, rfl, .inr ⟨rfl, hc.1.1⟩⟩
      · exact lookup_relabel h
    · rw [List.lookup_cons] at h ⊢
      split at h
      · cases h
        exact ⟨k0, rfl, .inl rfl⟩
      · exact lookup_relabel h
theorem lookup_relabel_free {env : Env} : ∀ {names : List (Str × NameKind)} {y : Str}, names.lookup y = some .free →
    (names.map fun (n, k) => if (k == NameKind.free && env.scope.kind == .function && env.kindOf n == some .cell) then (n, NameKind.cell) else (n, k)).lookup y = some .cell ∨
    (names.map fun (n, k) => if (k == NameKind.free && env.scope.kind == .function && env.kindOf n == some .cell) then (n, NameKind.cell) else (n, k)).lookup y = some .free
  | [], _, h => by cases h
  | (n, k0) :: r, y, h => by
    rw [List.map_cons]
    rw [List.lookup_cons] at h
    simp only
    split at h
    · rename_i hy
      cases h
      split
      · left; rw [List.lookup_cons, hy]
      · right; rw [List.lookup_cons, hy]
    · rename_i hy
      split
      · rw [List.lookup_cons, hy]; exact lookup_relabel_free h
      · rw [List.lookup_cons, hy]; exact lookup_relabel_free h
structure LcNamesC (N : List Str) (sc0 sc : Scope) (fr : List Nat) : Prop where
  kind : sc.kind = .function
  kind0 : sc0.kind = .function
  own : ∀ y ∈ sc.names, y.2 = .cell → ∀ z ∈ sc.names, z.2 = .free → z.1 ≠ y.1
  loc : ∀ y ∈ sc.names, y.2 = .local → sc.names.lookup y.1 = some .local
  fre : ∀ y ∈ sc.names, y.2 = .free → sc0.names.lookup y.1 = some .cell
  frs : ∀ j ∈ fr, sc.names.lookup (N.getD j "") = some .free ∧ j < N.length
theorem closF_none {cells : List (Str × Addr)} : ∀ (names : List (Str × NameKind)) (cs : List (Str × Addr)) (y : Str), (∀ z ∈ names, z.2 = .free → z.1 ≠ y) → cs.lookup y = none → (closF cells names cs).lookup y = none
  | [], _, _, _, h => h
  | (n, k) :: r, cs, y, hn, h => by
    refine closF_none r _ y (fun z hz => hn z (.tail _ hz)) ?_
    split
    · rename_i hk
      have hne : n ≠ y := hn (n, k) (.head _) (beq_iff_eq.mp hk)
      have hb : (y == n) = false := beq_eq_false_iff_ne.mpr fun e => hne e.symm
      rw [List.lookup_cons, hb]
      exact h
    · exact h
theorem lookup_relabel_cell {env : Env} : ∀ {names : List (Str × NameKind)} {y : Str}, names.lookup y = some .cell →
    (names.map fun (n, k) => if (k == NameKind.free && env.scope.kind == .function && env.kindOf n == some .cell) then (n, NameKind.cell) else (n, k)).lookup y = some .cell
  | [], _, h => by cases h
  | (n, k0) :: r, y, h => by
    rw [List.map_cons]
    rw [List.lookup_cons] at h
    simp only
    split at h
    · rename_i hy
      cases h
      rw [if_neg (by intro z; rw [Bool.and_eq_true, Bool.and_eq_true] at z; exact absurd z.1.1 (by decide)), List.lookup_cons, hy]
    · rename_i hy
      split
      · rw [List.lookup_cons, hy]; exact lookup_relabel_cell h
      · rw [List.lookup_cons, hy]; exact lookup_relabel_cell h
theorem lcsC {sc : Scope} {fr : List Nat} (L : LcNamesC N sc0 sc fr) : LcScope ((cxOf CX P w K mg base N qual sc0 f cd A outer s H E).wish XE) sc (closF (cellsFrom (s.heap.objs.size + 1) sc0.names []) sc.names []) fr := by
  have hfree : ∀ p ∈ sc.names, p.2 = .free → ∃ c, (cellsFrom (s.heap.objs.size + 1) sc0.names []).lookup p.1 = some c := fun p hp e => cell_has (L.fre p hp e)
  refine ⟨clos_eq hfree, L.kind, fun y hy => closF_none _ _ y (L.own _ hy rfl) rfl, L.loc, closF_sub _ _ hfree (fun _ _ e => nomatch e), fun y hy => ?_, fun j hj => ?_⟩
  · have hk : sc.names.lookup y = some .free ∨ sc.names.lookup y = some .cell := by
      rcases hy with hy | hy
      · obtain ⟨k0, h1, h2⟩ := lookup_relabel hy
        rcases h2 with h2 | ⟨_, h2⟩
        · rw [← h2] at h1; exact .inr h1
        · rw [h2] at h1; exact .inl h1
      · obtain ⟨k0, h1, h2⟩ := lookup_relabel hy
        rcases h2 with h2 | ⟨h2, _⟩
        · rw [← h2] at h1; exact .inl h1
        · cases h2
    exact hk.imp (fun q => closF_has _ _ y (mem_of_lookup q)) mem_of_lookup
  · obtain ⟨h1, h2⟩ := L.frs j hj
    have hm := mem_of_lookup h1
    have h3 := L.fre _ hm rfl
    refine ⟨N.getD j "", ?_, ?_, .inr (.inl h3), ?_, closF_has _ _ _ hm⟩
    · show N[j]? = some (N.getD j "")
      rw [List.getD_eq_getElem?_getD, List.getElem?_eq_getElem h2]
      rfl
    · exact lookup_relabel_free h1
    · intro z
      have z' : sc0.names.lookup (N.getD j "") = some .local := z
      have h3' : sc0.names.lookup (N.getD j "") = some .cell := h3
      rw [h3'] at z'
      cases z'
theorem lcs {sc : Scope} {fr : List Nat} (L : LcNames N sc0 sc fr) : LcScope ((cxOf CX P w K mg base N qual sc0 f cd A outer s H E).wish XE) sc (closF (cellsFrom (s.heap.objs.size + 1) sc0.names []) sc.names []) fr :=
  lcsC ⟨L.kind, L.kind0, fun y hy e => absurd e (L.nocell y hy), L.loc, L.fre, L.frs⟩
end
structure LcNames2 (N : List Str) (sc0 sc : Scope) (fr : List Nat) : Prop where
  kind : sc.kind = .function
  own : ∀ y ∈ sc.names, y.2 = .cell → ∀ z ∈ sc.names, z.2 = .free → z.1 ≠ y.1
  loc : ∀ y ∈ sc.names, y.2 = .local → sc.names.lookup y.1 = some .local
  fre : ∀ y ∈ sc.names, y.2 = .free → sc0.names.lookup y.1 = some .cell ∨ sc0.names.lookup y.1 = some .free
  frs : ∀ j ∈ fr, sc.names.lookup (N.getD j "") = some .free ∧ j < N.length
theorem lcs2 {X : Cx} {own0 : List Str} {fr0 : List Nat} {sc0 : Scope} {cl0 : List (Str × Addr)} {C : Addr} {s : Shared} {H : Hp} {ex : List Addr} {pn : List (Addr × Obj)} {sc : Scope} {fr : List Nat}
    (L : LcNames2 (own0 ++ fr0.map fun j => X.N.getD j "") sc0 sc fr) (hcl : ∀ y, (y, NameKind.free) ∈ sc0.names → ∃ c, cl0.lookup y = some c) :
    LcScope (cxLc X own0 fr0 sc0 cl0 C s H ex pn) sc (closF (cellsFrom (C + 1) sc0.names cl0) sc.names []) fr := by
  have hfree : ∀ p ∈ sc.names, p.2 = .free → ∃ c, (cellsFrom (C + 1) sc0.names cl0).lookup p.1 = some c := fun p hp e => by
    rcases L.fre p hp e with q | q
    · exact cf_has _ _ _ _ (mem_of_lookup q)
    · exact cf_some _ _ _ _ (hcl _ (mem_of_lookup q))
  refine ⟨clos_eq hfree, L.kind, fun y hy => closF_none _ _ y (L.own _ hy rfl) rfl, L.loc, closF_sub _ _ hfree (fun _ _ e => nomatch e), fun y hy => ?_, fun j hj => ?_⟩
  · have hk : sc.names.lookup y = some .free ∨ sc.names.lookup y = some .cell := by
      rcases hy with hy | hy
      · obtain ⟨k0, h1, h2⟩ := lookup_relabel hy
        rcases h2 with h2 | ⟨_, h2⟩
        · rw [← h2] at h1; exact .inr h1
        · rw [h2] at h1; exact .inl h1
      · obtain ⟨k0, h1, h2⟩ := lookup_relabel hy
        rcases h2 with h2 | ⟨h2, _⟩
        · rw [← h2] at h1; exact .inl h1
        · cases h2
    exact hk.imp (fun q => closF_has _ _ y (mem_of_lookup q)) mem_of_lookup
  · obtain ⟨h1, h2⟩ := L.frs j hj
    have hm := mem_of_lookup h1
    have hv : (relabel sc0 X.env).names.lookup ((own0 ++ fr0.map fun j => X.N.getD j "").getD j "") = some .cell ∨ (relabel sc0 X.env).names.lookup ((own0 ++ fr0.map fun j => X.N.getD j "").getD j "") = some .free := by
      rcases L.fre _ hm rfl with q | q
      · exact .inl (lookup_relabel_cell q)
      · exact lookup_relabel_free q
    refine ⟨_, ?_, lookup_relabel_free h1, .inr hv, fun z => ?_, closF_has _ _ _ hm⟩
    · show (own0 ++ fr0.map fun j => X.N.getD j "")[j]? = some _
      rw [List.getD_eq_getElem?_getD, List.getElem?_eq_getElem h2]
      rfl
    · have z' : (relabel sc0 X.env).names.lookup ((own0 ++ fr0.map fun j => X.N.getD j "").getD j "") = some .local := z
      rcases hv with q | q <;> rw [q] at z' <;> cases z'
section
variable {g : TG} {tb : TS} {D : Ends} {σ : St} {H : Hp} {ta : TA}
end
section
variable {X : Cx} {K : PySem.W.Frag}
theorem ix_tupK (h : X.K = K) : IxR X (rIxT K) := h ▸ ix_tup
theorem ix_listK (h : X.K = K) : IxR X (rIxL K) := h ▸ ix_list
theorem call_lenK (h : X.K = K) : CallR X (.builtin "len") (fun xs H Q => ∃ p ys, xs = [.ref p] ∧ (SqL K H p ys ∨ SqT K H p ys) ∧ Q (.int ys.length) H) := h ▸ call_len_seq
end
end L2
namespace L2
open PySem PySem.Spec PyProof.Rows
section
variable {P : Program} {w : World} {outer : List Env} {H H' : Hp} {s s' : Shared} {x C : Addr}
end
section
variable {X : Cx} {pins : List (Addr × Obj)} {σ : St} {H H' : Hp} {s s' : Shared}
end
section
variable {P : Program} {w : World} {K : PySem.W.Frag} {mg : Str → Option Value} {base : Heap} {N : List Str} {qual : Str} {sc : Scope} {f : Addr} {cd : Value} {A : Around} {outer : List Env} {s : Shared} {H : Hp} {E : XK}
end
end L2
namespace L2
open PySem PySem.Spec PyProof.Rows
section
variable {X : Cx} {E : XK} {C : Addr} {x : Str} {np cpos pos : Pos} {e₀ : Expr} {rest : List Expr} {ta : TA}
end
section
variable {X : Cx} {CX : CXT} {k : Nat} {f : Addr} {fd : FuncData} {ps : List Str} {sp : Sp} {dvs : List V} {ds : List Value} {E : St → XK} {x : Str} {p pos : Pos} {e : Expr} {es : List Expr} {t : TA}
end
section
variable {X : Cx} {D : Addr} {i : Nat} {n x : Str} {np hpos pos : Pos} {body suite : List Stmt} {b₀ : Stmt} {tb : (St → XK) → TS} {th : TS} {L : Addr} {outer : List Env}
end
end L2
namespace L2
open PySem PySem.Spec PyProof.Rows PySem.W PySem.Builtin PySem.Builtin.ObjectAttr PySem.Builtin.Getset_descriptor
section
variable {K : PySem.W.Frag} {x C : Addr}
variable {prog : Program} {w : World} {A : Around} {E : Value → Shared → Prop} {s : Shared}
end
section
variable {X : Cx}
end
end L2
namespace L2
open PySem PySem.Spec PyProof.Rows
theorem Same.tup {K : PySem.W.Frag} {H H' : Hp} {a : Addr} {xs : List V} (e : Same H H') (h : SqT K H a xs) : SqT K H' a xs := by
  rcases h with (h | ⟨o, h⟩) | h
  · exact .inl (.inl (e _ _ h))
  · exact .inl (.inr ⟨o, e _ _ h⟩)
  · exact .inr h
theorem Same.upd {H H' : Hp} {p : Addr} {o : HO} (e : Same H H') (hp : H p = none) : Same H (L2.upd H' p o) := fun b u h => by
  rw [upd_ne (ne_of_none h hp)]; exact e b u h
theorem Same.new {H : Hp} {p : Addr} {o : HO} (hp : H p = none) : Same H (L2.upd H p o) := (Same.refl H).upd hp
theorem small_lt {a : Int} (h0 : 0 ≤ a) (h : a < 2 ^ 60) : a.natAbs < 2 ^ 8000 := by
  have big : (2 : Nat) ^ 60 < 2 ^ 8000 := Nat.pow_lt_pow_right (by decide) (by decide)
  omega
section
variable {P : Program} {w : World} {K : PySem.W.Frag} {mg : Str → Option Value} {base : Heap}
theorem Fun.d {x qual : Str} {st : Stmt} {f : Addr} {fd : FuncData} (F : Fun K x qual st f fd) : FunD K x qual st .none f fd := ⟨F.ex, F.kp⟩
end
end L2
namespace L2
open PySem
section
variable {X : Cx}
end
end L2
namespace L2
open PySem PySem.Spec PyProof.Rows
section
variable {X : Cx} {tg : Expr}
theorem boolsAre {bs : List Bool} {its : List Value} (r : Vals (bs.map V.bl) its) : PyProof.Rows.LSm.BoolsAre its bs := by
  induction bs generalizing its with
  | nil => cases r; exact .nil
  | cons y ys ih =>
    cases r with
    | cons r1 rr =>
      cases r1
      exact .cons _ (ih rr)
def rAll (K : PySem.W.Frag) : List V → Hp → VK → Prop := fun xs H Q => ∃ (p : Addr) (bs : List Bool), xs = [.ref p] ∧ SqL K H p (bs.map V.bl) ∧ Q (.bl (bs.all id)) H
theorem call_all (hc : X.calm = true) : CallR X (.builtin "all") (rAll X.K) := by
  intro pins s σ H xs us Q I r h
  obtain ⟨p, bs, rfl, hq, q⟩ := h
  cases r with
  | cons r1 rr =>
    cases rr
    cases r1
    obtain ⟨its, rv, pl, hz⟩ := I.list hq
    have hb := boolsAre rv
    have hl : s.heap.IsList p its.toArray := pl.isList
    have hlt : p < s.heap.objs.size := by obtain ⟨_, e, _⟩ := hl; exact Heap.lt_size e
    refine call_all_walk (wpAny_pyIter_list hl ?_)
    refine ⟨s.heap.objs.size, [s.heap.objs.size, p], [s.heap.objs.size], its.toArray.size, _, _, fun i => (bs[i]?).getD true, rfl, Walks.list (A := X.A.in1) (I.ok.hd hc) _ p (Nat.ne_of_lt hlt) its.toArray,
      ⟨⟨_, Heap.get?_push_size _ rfl, rfl, rfl⟩, hl.push _⟩, fun i v s' Q' E' hP hQ => ?_, fun h' tk hk => ?_⟩
    · obtain ⟨b, e, rfl⟩ := hb.get i v (by simpa using hP)
      simp only [e, Option.getD_some] at hQ
      exact wpAny_truthy_bool hQ
    · have e : ((List.range its.toArray.size).all fun i => (bs[i]?).getD true) = bs.all id := by
        rw [List.size_toArray, hb.length]; exact LSm.range_all bs
      rw [e]
      exact ⟨.bl _, H, I.kept (t' := tk) (LSm.kept_iter hk), rfl, q⟩
end
end L2
namespace L2
open PySem PySem.Spec PyProof.Rows
inductive Tr where
  | fz (d : Dv)
  | ow (ts : List Tr)
  | tp (ts : List Tr)
mutual
noncomputable def Ow (K : PySem.W.Frag) (G H : Hp) : Tr → V → List Addr → Prop
  | .fz d, v, fp => fp = [] ∧ Hv K G d v
  | .ow ts, v, fp => ∃ a vs fq, v = .ref a ∧ H a = some (.lst vs) ∧ OwL K G H ts vs fq ∧ fp = a :: fq
  | .tp ts, v, fp => ∃ a vs fq, v = .ref a ∧ H a = some (.tup vs) ∧ OwL K G H ts vs fq ∧ fp = a :: fq
noncomputable def OwL (K : PySem.W.Frag) (G H : Hp) : List Tr → List V → List Addr → Prop
  | [], vs, fp => vs = [] ∧ fp = []
  | t :: ts, vs, fp => ∃ v r f1 f2, vs = v :: r ∧ fp = f1 ++ f2 ∧ Ow K G H t v f1 ∧ OwL K G H ts r f2
end
mutual
noncomputable def er : Tr → Dv
  | .fz d => d
  | .ow ts => .lst (ers ts)
  | .tp ts => .tup (ers ts)
noncomputable def ers : List Tr → List Dv
  | [] => []
  | t :: ts => er t :: ers ts
end
theorem ers_map : ∀ ts : List Tr, ers ts = ts.map er
  | [] => rfl
  | t :: ts => by rw [ers, ers_map ts]; rfl
mutual
theorem Hv.mono {K : PySem.W.Frag} {G G' : Hp} (e : Same G G') : ∀ {d : Dv} {v : V}, Hv K G d v → Hv K G' d v
  | .fl _, _, h => h
  | .lst ds, _, ⟨a, xs, h1, h2, h3⟩ => ⟨a, xs, h1, e.seq h2, HvL.mono e h3⟩
  | .tup ds, _, ⟨a, xs, h1, h2, h3⟩ => ⟨a, xs, h1, e.tup h2, HvL.mono e h3⟩
theorem HvL.mono {K : PySem.W.Frag} {G G' : Hp} (e : Same G G') : ∀ {ds : List Dv} {vs : List V}, HvL K G ds vs → HvL K G' ds vs
  | [], _, h => h
  | _ :: _, _, ⟨x, r, h1, h2, h3⟩ => ⟨x, r, h1, h2.mono e, HvL.mono e h3⟩
end
mutual
theorem Ow.mono {K : PySem.W.Frag} {G G' H H' : Hp} (e : Same G G') (e' : Same H H') : ∀ {t : Tr} {v : V} {fp : List Addr}, Ow K G H t v fp → Ow K G' H' t v fp
  | .fz _, _, _, ⟨h1, h2⟩ => ⟨h1, h2.mono e⟩
  | .ow _, _, _, ⟨a, vs, fq, h1, h2, h3, h4⟩ => ⟨a, vs, fq, h1, e' _ _ h2, OwL.mono e e' h3, h4⟩
  | .tp _, _, _, ⟨a, vs, fq, h1, h2, h3, h4⟩ => ⟨a, vs, fq, h1, e' _ _ h2, OwL.mono e e' h3, h4⟩
theorem OwL.mono {K : PySem.W.Frag} {G G' H H' : Hp} (e : Same G G') (e' : Same H H') : ∀ {ts : List Tr} {vs : List V} {fp : List Addr}, OwL K G H ts vs fp → OwL K G' H' ts vs fp
  | [], _, _, h => h
  | _ :: _, _, _, ⟨v, r, f1, f2, h1, h2, h3, h4⟩ => ⟨v, r, f1, f2, h1, h2, h3.mono e e', OwL.mono e e' h4⟩
end
mutual
theorem Ow.frame {K : PySem.W.Frag} {G H : Hp} {a : Addr} {o : HO} : ∀ {t : Tr} {v : V} {fp : List Addr}, Ow K G H t v fp → a ∉ fp → Ow K G (upd H a o) t v fp
  | .fz _, _, _, h, _ => h
  | .ow _, _, _, ⟨b, vs, fq, h1, h2, h3, h4⟩, n => by
    subst h4
    refine ⟨b, vs, fq, h1, ?_, OwL.frame h3 fun z => n (.tail _ z), rfl⟩
    rw [upd_ne fun z => n (by rw [z]; exact .head _)]
    exact h2
  | .tp _, _, _, ⟨b, vs, fq, h1, h2, h3, h4⟩, n => by
    subst h4
    refine ⟨b, vs, fq, h1, ?_, OwL.frame h3 fun z => n (.tail _ z), rfl⟩
    rw [upd_ne fun z => n (by rw [z]; exact .head _)]
    exact h2
theorem OwL.frame {K : PySem.W.Frag} {G H : Hp} {a : Addr} {o : HO} : ∀ {ts : List Tr} {vs : List V} {fp : List Addr}, OwL K G H ts vs fp → a ∉ fp → OwL K G (upd H a o) ts vs fp
  | [], _, _, h, _ => h
  | _ :: _, _, _, ⟨v, r, f1, f2, h1, h2, h3, h4⟩, n => by
    subst h2
    exact ⟨v, r, f1, f2, h1, rfl, h3.frame fun z => n (List.mem_append_left _ z), OwL.frame h4 fun z => n (List.mem_append_right _ z)⟩
end
mutual
theorem Ow.there {K : PySem.W.Frag} {G H : Hp} : ∀ {t : Tr} {v : V} {fp : List Addr}, Ow K G H t v fp → ∀ a ∈ fp, ∃ o, H a = some o
  | .fz _, _, _, ⟨h, _⟩, a, ha => by subst h; cases ha
  | .ow _, _, _, ⟨b, vs, fq, h1, h2, h3, h4⟩, a, ha => by
    subst h4
    rcases List.mem_cons.mp ha with rfl | ha
    · exact ⟨_, h2⟩
    · exact OwL.there h3 a ha
  | .tp _, _, _, ⟨b, vs, fq, h1, h2, h3, h4⟩, a, ha => by
    subst h4
    rcases List.mem_cons.mp ha with rfl | ha
    · exact ⟨_, h2⟩
    · exact OwL.there h3 a ha
theorem OwL.there {K : PySem.W.Frag} {G H : Hp} : ∀ {ts : List Tr} {vs : List V} {fp : List Addr}, OwL K G H ts vs fp → ∀ a ∈ fp, ∃ o, H a = some o
  | [], _, _, ⟨_, h⟩, a, ha => by subst h; cases ha
  | _ :: _, _, _, ⟨v, r, f1, f2, h1, h2, h3, h4⟩, a, ha => by
    subst h2
    rcases List.mem_append.mp ha with ha | ha
    · exact h3.there a ha
    · exact OwL.there h4 a ha
end
mutual
theorem Ow.hv {K : PySem.W.Frag} {G H G' : Hp} (e : Same G G') : ∀ {t : Tr} {v : V} {fp : List Addr}, Ow K G H t v fp → (∀ a ∈ fp, G' a = H a) → Hv K G' (er t) v
  | .fz _, _, _, ⟨_, h⟩, _ => h.mono e
  | .ow _, _, _, ⟨b, vs, fq, h1, h2, h3, h4⟩, q => by
    subst h4
    exact ⟨b, vs, h1, SqL.of ((q b (.head _)).trans h2), OwL.hv e h3 fun a ha => q a (.tail _ ha)⟩
  | .tp _, _, _, ⟨b, vs, fq, h1, h2, h3, h4⟩, q => by
    subst h4
    exact ⟨b, vs, h1, SqT.of ((q b (.head _)).trans h2), OwL.hv e h3 fun a ha => q a (.tail _ ha)⟩
theorem OwL.hv {K : PySem.W.Frag} {G H G' : Hp} (e : Same G G') : ∀ {ts : List Tr} {vs : List V} {fp : List Addr}, OwL K G H ts vs fp → (∀ a ∈ fp, G' a = H a) → HvL K G' (ers ts) vs
  | [], _, _, ⟨h, _⟩, _ => h
  | _ :: _, _, _, ⟨v, r, f1, f2, h1, h2, h3, h4⟩, q => by
    subst h2
    exact ⟨v, r, h1, h3.hv e fun a ha => q a (List.mem_append_left _ ha), OwL.hv e h4 fun a ha => q a (List.mem_append_right _ ha)⟩
end
theorem OwL.length {K : PySem.W.Frag} {G H : Hp} : ∀ {ts : List Tr} {vs : List V} {fp : List Addr}, OwL K G H ts vs fp → ts.length = vs.length
  | [], _, _, ⟨h, _⟩ => by subst h; rfl
  | _ :: _, _, _, ⟨v, r, f1, f2, h1, h2, h3, h4⟩ => by subst h1; rw [List.length_cons, List.length_cons, OwL.length h4]
theorem OwL.append {K : PySem.W.Frag} {G H : Hp} : ∀ {ts us : List Tr} {vs ws : List V} {f1 f2 : List Addr}, OwL K G H ts vs f1 → OwL K G H us ws f2 → OwL K G H (ts ++ us) (vs ++ ws) (f1 ++ f2)
  | [], us, _, ws, _, f2, ⟨h, h'⟩, q => by subst h h'; exact q
  | _ :: _, us, _, ws, _, f2, ⟨v, r, g1, g2, h1, h2, h3, h4⟩, q => by
    subst h1 h2
    exact ⟨v, r ++ ws, g1, g2 ++ f2, rfl, by rw [List.append_assoc], h3, OwL.append h4 q⟩
theorem HvL.owl {K : PySem.W.Frag} {G H : Hp} : ∀ {ds : List Dv} {vs : List V}, HvL K G ds vs → OwL K G H (ds.map .fz) vs []
  | [], _, h => ⟨h, rfl⟩
  | _ :: _, _, ⟨x, r, h1, h2, h3⟩ => ⟨x, r, [], [], h1, rfl, ⟨rfl, h2⟩, HvL.owl h3⟩
structure Step (G H G' H' : Hp) : Prop where
  g : Same G G'
  h : Same H H'
  s : Same G' H'
  n : ∀ a, G a = none → G' a ≠ none → H a = none
theorem Step.refl {G H : Hp} (s : Same G H) : Step G H G H := ⟨Same.refl _, Same.refl _, s, fun a h h' => absurd h h'⟩
theorem Step.trans {G H G1 H1 G2 H2 : Hp} (a : Step G H G1 H1) (b : Step G1 H1 G2 H2) : Step G H G2 H2 :=
  ⟨a.g.trans b.g, a.h.trans b.h, b.s, fun x h h' => by
    cases q : G1 x with
    | none => exact a.h.free (b.n x q h')
    | some o => exact a.n x h (by rw [q]; exact fun z => nomatch z)⟩
theorem Same.upd2 {G H : Hp} {p : Addr} {o : HO} (s : Same G H) : Same (L2.upd G p o) (L2.upd H p o) := fun b u h => by
  unfold L2.upd at h ⊢
  split
  · rename_i e; rw [if_pos e] at h; exact h
  · rename_i e; rw [if_neg e] at h; exact s b u h
theorem Step.new {G H : Hp} {p : Addr} {o : HO} (s : Same G H) (hp : H p = none) : Step G H (upd G p o) (upd H p o) :=
  ⟨Same.new (s.free hp), Same.new hp, s.upd2, fun a h h' => by
    by_cases e : a = p
    · subst e; exact hp
    · rw [upd_ne e] at h'; exact absurd h h'⟩
theorem Step.newO {G H : Hp} {p : Addr} {o : HO} (s : Same G H) (hp : H p = none) : Step G H G (upd H p o) :=
  ⟨Same.refl _, Same.new hp, s.trans (Same.new hp), fun a h h' => absurd h h'⟩
structure Nw (H G' : Hp) (fq : List Addr) : Prop where
  n : ∀ a ∈ fq, H a = none
  g : ∀ a ∈ fq, G' a = none
  d : fq.Nodup
theorem Nw.nil {H G : Hp} : Nw H G [] := ⟨fun _ h => (nomatch h), fun _ h => (nomatch h), .nil⟩
def Kv (K : PySem.W.Frag) (G H : Hp) (t : Tr) (Q : VK) : Prop := ∀ v G' H' fq, Step G H G' H' → Ow K G' H' t v fq → Nw H G' fq → Q v H'
theorem Kv.step {K : PySem.W.Frag} {G H G1 H1 : Hp} {t : Tr} {Q : VK} (k : Kv K G H t Q) (e : Step G H G1 H1) : Kv K G1 H1 t Q := fun v G' H' fq st o w =>
  k v G' H' fq (e.trans st) o ⟨fun a ha => e.h.free (w.n a ha), w.g, w.d⟩
def frzd (G H : Hp) (fq : List Addr) : Hp := fun a => if a ∈ fq then H a else G a
theorem frzd_in {G H : Hp} {fq : List Addr} {a : Addr} (h : a ∈ fq) : frzd G H fq a = H a := by unfold frzd; rw [if_pos h]
theorem frzd_out {G H : Hp} {fq : List Addr} {a : Addr} (h : a ∉ fq) : frzd G H fq a = G a := by unfold frzd; rw [if_neg h]
theorem frzd_same {G H : Hp} {fq : List Addr} (h : ∀ a ∈ fq, G a = none) : Same G (frzd G H fq) := fun b o e => by
  by_cases q : b ∈ fq
  · rw [h b q] at e; cases e
  · rw [frzd_out q]; exact e
theorem frzd_sub {G H : Hp} {fq : List Addr} (s : Same G H) : Same (frzd G H fq) H := fun b o e => by
  by_cases q : b ∈ fq
  · rw [frzd_in q] at e; exact e
  · rw [frzd_out q] at e; exact s b o e
theorem Step.frz {G H G' H' : Hp} {fq : List Addr} (e : Step G H G' H') (w : Nw H G' fq) : Step G H (frzd G' H' fq) H' :=
  ⟨e.g.trans (frzd_same w.g), e.h, frzd_sub e.s, fun a h h' => by
    by_cases q : a ∈ fq
    · exact w.n a q
    · rw [frzd_out q] at h'; exact e.n a h h'⟩
structure Fam (ι : Type) where
  cx : ι → Cx
  P : Program
  w : World
  K : PySem.W.Frag
  mg : Str → Option Value
  base : Heap
  room : Nat
  hP : ∀ i, (cx i).prog = P
  hw : ∀ i, (cx i).w = w
  hK : ∀ i, (cx i).K = K
  hm : ∀ i, (cx i).mg = mg
  hb : ∀ i, (cx i).base = base
  hr : ∀ i, Room room (cx i).A
  calm : ∀ i, (cx i).calm = true
abbrev En := List (Option Tr)
def RpD (K : PySem.W.Frag) (G : Hp) (ρ : En) (σ : St) : Prop := ∀ (j : Nat) (d : Dv), ρ[j]? = some (some (Tr.fz d)) → ∃ v, σ[j]? = some (some v) ∧ Hv K G d v
theorem RpD.mono {K : PySem.W.Frag} {G G' : Hp} {ρ : En} {σ : St} (e : Same G G') (r : RpD K G ρ σ) : RpD K G' ρ σ := fun j d h => by
  obtain ⟨v, h1, h2⟩ := r j d h
  exact ⟨v, h1, h2.mono e⟩
section
variable {ι : Type}
def Ev (F : Fam ι) (e : Expr) (ρ : En) (t : Tr) : Prop := ∃ τ : TE, (∀ i, PE (F.cx i) e τ) ∧ ∀ σ G H Q, Same G H → RpD F.K G ρ σ → Kv F.K G H t Q → τ σ H Q
def Et (F : Fam ι) (e : Expr) (ρ : En) (b : Bool) : Prop := ∃ τ : TT, (∀ i, PT (F.cx i) e τ) ∧ ∀ σ G H Q, Same G H → RpD F.K G ρ σ → (∀ G' H', Step G H G' H' → Q b H') → τ σ H Q
def EvA (F : Fam ι) (es : List Expr) (ρ : En) (ts : List Tr) : Prop := ∃ τ : TA, (∀ i, PA (F.cx i) es τ) ∧ ∀ σ G H Q, Same G H → RpD F.K G ρ σ →
  (∀ vs G' H' fq, Step G H G' H' → OwL F.K G' H' ts vs fq → Nw H G' fq → Q vs H') → τ σ H Q
variable {F : Fam ι} {e a b : Expr} {es : List Expr} {ρ : En} {t ta tb : Tr} {ts : List Tr}
theorem Ev.use (h : Ev F e ρ t) : ∃ τ : TE, (∀ i, PE (F.cx i) e τ) ∧ ∀ σ G H (Q : VK), Same G H → RpD F.K G ρ σ → (∀ v G' H', Step G H G' H' → Hv F.K G' (er t) v → Q v H') → τ σ H Q := by
  obtain ⟨τ, p, q⟩ := h
  refine ⟨τ, p, fun σ G H Q s r k => q σ G H Q s r fun v G' H' fq st o w => ?_⟩
  exact k v (frzd G' H' fq) H' (st.frz w) (o.hv (frzd_same w.g) fun a ha => frzd_in ha)
theorem Ev.fz (h : Ev F e ρ t) : Ev F e ρ (.fz (er t)) := by
  obtain ⟨τ, p, q⟩ := h.use
  exact ⟨τ, p, fun σ G H Q s r k => q σ G H Q s r fun v G' H' st hv => k v G' H' [] st ⟨rfl, hv⟩ .nil⟩
theorem Ev.as {d : Dv} (h : Ev F e ρ t) (ed : er t = d) : Ev F e ρ (.fz d) := ed ▸ h.fz
theorem EvA.use (h : EvA F es ρ ts) : ∃ τ : TA, (∀ i, PA (F.cx i) es τ) ∧ ∀ σ G H (Q : List V → Hp → Prop), Same G H → RpD F.K G ρ σ → (∀ vs G' H', Step G H G' H' → HvL F.K G' (ers ts) vs → Q vs H') → τ σ H Q := by
  obtain ⟨τ, p, q⟩ := h
  refine ⟨τ, p, fun σ G H Q s r k => q σ G H Q s r fun v G' H' fq st o w => ?_⟩
  exact k v (frzd G' H' fq) H' (st.frz w) (o.hv (frzd_same w.g) fun a ha => frzd_in ha)
theorem eva_nil : EvA F [] ρ [] := ⟨tNil, fun i => pa_nil, fun σ G H Q s r k => k [] G H [] (.refl s) ⟨rfl, rfl⟩ .nil⟩
theorem Nw.app {H G1 H1 G2 : Hp} {f1 f2 : List Addr} (w1 : Nw H G1 f1) (w2 : Nw H1 G2 f2) (hh : Same H H1) (th : ∀ a ∈ f1, ∃ o, H1 a = some o) (hg : ∀ a, G1 a = none → G2 a ≠ none → H1 a = none) : Nw H G2 (f1 ++ f2) :=
  ⟨fun a ha => (List.mem_append.mp ha).elim (w1.n a) fun z => hh.free (w2.n a z), fun a ha => (List.mem_append.mp ha).elim (fun z => by
      cases q : G2 a with
      | none => rfl
      | some o =>
        obtain ⟨u, hu⟩ := th a z
        have := hg a (w1.g a z) (by rw [q]; exact fun z => nomatch z)
        rw [hu] at this; cases this) (w2.g a),
    List.nodup_append.mpr ⟨w1.d, w2.d, fun a ha b hb e => by
      subst e
      obtain ⟨u, hu⟩ := th a ha
      rw [w2.n a hb] at hu; cases hu⟩⟩
theorem eva_cons (ha : Ev F e ρ t) (hr : EvA F es ρ ts) (hs : ∀ i, starEach (e :: es) (F.cx i).env = (false, eval e (F.cx i).env) :: starEach es (F.cx i).env := by intro _; rfl) : EvA F (e :: es) ρ (t :: ts) := by
  obtain ⟨τ, p, q⟩ := ha
  obtain ⟨τ', p', q'⟩ := hr
  refine ⟨tCons τ τ', fun i => pa_cons (p i) (p' i) (hs i), fun σ G H Q s r k => ?_⟩
  refine q σ G H _ s r fun v G1 H1 f1 s1 o1 w1 => q' σ G1 H1 _ s1.s (r.mono s1.g) fun vs G2 H2 f2 s2 o2 w2 => ?_
  exact k (v :: vs) G2 H2 (f1 ++ f2) (s1.trans s2) ⟨v, vs, f1, f2, rfl, rfl, o1.mono s2.g s2.h, o2⟩ (w1.app w2 s1.h (fun a ha => o1.there a ha) s2.n)
end
end L2
namespace L2
open PySem PySem.Spec PyProof.Rows
abbrev di (n : Int) : Dv := .fl (.int n)
abbrev db (b : Bool) : Dv := .fl (.bl b)
abbrev dn : Dv := .fl .non
abbrev ds (x : Str) : Dv := .fl (.str x)
abbrev dis (ns : List Int) : Dv := .lst (ns.map di)
abbrev ti (n : Int) : Tr := .fz (di n)
abbrev tb (b : Bool) : Tr := .fz (db b)
abbrev tn : Tr := .fz dn
abbrev tx (x : Str) : Tr := .fz (ds x)
theorem Kv.sc {K : PySem.W.Frag} {G H : Hp} {v : V} {Q : VK} (k : Kv K G H (.fz (.fl v)) Q) (s : Same G H) (f : flatV v = true) : Q v H := k v G H [] (.refl s) ⟨rfl, rfl, f⟩ .nil
theorem Kv.dat {K : PySem.W.Frag} {G H : Hp} {d : Dv} {v : V} {Q : VK} (k : Kv K G H (.fz d) Q) (s : Same G H) (h : Hv K G d v) : Q v H := k v G H [] (.refl s) ⟨rfl, h⟩ .nil
theorem Kv.lst {K : PySem.W.Frag} {G H : Hp} {ts : List Tr} {vs : List V} {Q : VK} (k : Kv K G H (.ow ts) Q) (s : Same G H) (h : OwL K G H ts vs []) {p : Addr} (hp : H p = none) : Q (.ref p) (upd H p (.lst vs)) :=
  k (.ref p) G _ [p] (.newO s hp) ⟨p, vs, [], rfl, upd_same, h.mono (Same.refl _) (Same.new hp), rfl⟩ ⟨fun a ha => by rw [List.mem_singleton.mp ha]; exact hp, fun a ha => by rw [List.mem_singleton.mp ha]; exact s.free hp, by simp⟩
theorem hvi {K : PySem.W.Frag} {G : Hp} {v x : V} (h : Hv K G (.fl v) x) : x = v := h.1
section
variable {ι : Type} {F : Fam ι} {e a b c : Expr} {es : List Expr} {ρ : En} {t ta tb' : Tr} {ts : List Tr} {pos : Pos}
theorem ev_nm (j : Nat) {d : Dv} {x : Str} (h : ρ[j]? = some (some (.fz d))) (hN : ∀ i, (F.cx i).N[j]? = some x := by intro _; rfl)
    (hv : ∀ i, Vis (F.cx i).env.scope x := by intro _; first | exact Or.inl rfl | exact Or.inr (Or.inl rfl) | exact Or.inr (Or.inr rfl)) (hd : (x == ("__debug__" : Str)) = false := by decide) (hc : (x == ("__classdict__" : Str)) = false := by decide) : Ev F (.Name x pos) ρ (.fz d) :=
  ⟨tVar j, fun i => pe_var (hN i) (hv i) hd hc, fun σ G H Q s r k => by
    obtain ⟨v, h1, h2⟩ := r j d h
    exact ⟨v, h1, k.dat s h2⟩⟩
theorem ev_int {n : Int} {j : Nat} : Ev F (.Constant (.int n) j pos) ρ (ti n) := ⟨_, fun i => pe_int, fun σ G H Q s r k => k.sc s rfl⟩
theorem ev_bl {n : Bool} {j : Nat} : Ev F (.Constant (.bool n) j pos) ρ (tb n) := ⟨_, fun i => pe_bl, fun σ G H Q s r k => k.sc s rfl⟩
theorem ev_non {j : Nat} : Ev F (.Constant .none j pos) ρ tn := ⟨_, fun i => pe_non, fun σ G H Q s r k => k.sc s rfl⟩
theorem ev_glob {x : Str} {v : V} {u : Value} (hm : F.mg x = some u) (r : RelV v u) (f : flatV v = true) (hg : ∀ i, Gl (F.cx i) x := by intro _; rfl) (hd : (x == ("__debug__" : Str)) = false := by decide) : Ev F (.Name x pos) ρ (.fz (.fl v)) :=
  ⟨tC v, fun i => pe_glob (hg i) ((F.hm i).symm ▸ hm) r hd, fun σ G H Q s _ k => k.sc s f⟩
theorem ev_bin {op : Operator} {r : R2} (ho : ∀ i, OpR (F.cx i) (binaryOp op) r) (ha : Ev F a ρ ta) (hb : Ev F b ρ tb')
    (h : ∀ G H x y Q, Same G H → Hv F.K G (er ta) x → Hv F.K G (er tb') y → Kv F.K G H t Q → r x y H Q) : Ev F (.BinOp a op b pos) ρ t := by
  obtain ⟨τ, p, q⟩ := ha.use
  obtain ⟨τ', p', q'⟩ := hb.use
  refine ⟨tOp r τ τ', fun i => pe_op (ho i) (p i) (p' i), fun σ G H Q s rr k => ?_⟩
  refine q σ G H _ s rr fun x G1 H1 s1 hx => q' σ G1 H1 _ s1.s (rr.mono s1.g) fun y G2 H2 s2 hy => ?_
  exact h G2 H2 x y Q s2.s (hx.mono s2.g) hy (k.step (s1.trans s2))
theorem ev_add {i j : Int} (ha : Ev F a ρ (ti i)) (hb : Ev F b ρ (ti j)) : Ev F (.BinOp a .Add b pos) ρ (ti (i + j)) := ev_bin (fun _ => op_add) ha hb fun G H x y Q s hx hy k => ⟨i, j, hvi hx, hvi hy, k.sc s rfl⟩
theorem ev_sub {i j : Int} (ha : Ev F a ρ (ti i)) (hb : Ev F b ρ (ti j)) : Ev F (.BinOp a .Sub b pos) ρ (ti (i - j)) := ev_bin (fun _ => op_sub) ha hb fun G H x y Q s hx hy k => ⟨i, j, hvi hx, hvi hy, k.sc s rfl⟩
theorem ev_mul {i j : Int} (ha : Ev F a ρ (ti i)) (hb : Ev F b ρ (ti j)) (hc : CMulB i j) : Ev F (.BinOp a .Mult b pos) ρ (ti (i * j)) := ev_bin (fun _ => op_mulB) ha hb fun G H x y Q s hx hy k => ⟨i, j, hvi hx, hvi hy, hc, k.sc s rfl⟩
theorem ev_div {i j : Int} (ha : Ev F a ρ (ti i)) (hb : Ev F b ρ (ti j)) (hc : CDivB i j) : Ev F (.BinOp a .FloorDiv b pos) ρ (ti (i / j)) := ev_bin (fun _ => op_fdivB) ha hb fun G H x y Q s hx hy k => ⟨i, j, hvi hx, hvi hy, hc, k.sc s rfl⟩
theorem ev_mod {i j : Int} (ha : Ev F a ρ (ti i)) (hb : Ev F b ρ (ti j)) (hc : 0 < j) : Ev F (.BinOp a .Mod b pos) ρ (ti (i % j)) := ev_bin (fun _ => op_mod) ha hb fun G H x y Q s hx hy k => ⟨i, j, hvi hx, hvi hy, hc, k.sc s rfl⟩
theorem ev_pow {i j : Int} (ha : Ev F a ρ (ti i)) (hb : Ev F b ρ (ti j)) (hc : CPow i j) : Ev F (.BinOp a .Pow b pos) ρ (ti (i ^ j.toNat)) := ev_bin (fun _ => op_pow) ha hb fun G H x y Q s hx hy k => ⟨i, j, hvi hx, hvi hy, hc, k.sc s rfl⟩
theorem ev_cmp {op : CmpOp} {r : R2} {c : Bool} (ho : ∀ i, OpR (F.cx i) (compareOp op) r) (ha : Ev F a ρ ta) (hb : Ev F b ρ tb')
    (h : ∀ G H x y (Q : VK), Same G H → Hv F.K G (er ta) x → Hv F.K G (er tb') y → Q (.bl c) H → r x y H Q) (hm : behindInMarks op b = false) : Ev F (.Compare a [op] [b] pos) ρ (tb c) := by
  obtain ⟨τ, p, q⟩ := ha.use
  obtain ⟨τ', p', q'⟩ := hb.use
  refine ⟨tOp r τ τ', fun i => pe_cmpR (ho i) (p i) (p' i) hm, fun σ G H Q s rr k => ?_⟩
  refine q σ G H _ s rr fun x G1 H1 s1 hx => q' σ G1 H1 _ s1.s (rr.mono s1.g) fun y G2 H2 s2 hy => ?_
  exact h G2 H2 x y Q s2.s (hx.mono s2.g) hy ((k.step (s1.trans s2)).sc s2.s rfl)
theorem et_cmp {op : CmpOp} {r : R2} {c : Bool} (ho : ∀ i, OpR (F.cx i) (compareOp op) r) (ha : Ev F a ρ ta) (hb : Ev F b ρ tb')
    (h : ∀ G H x y (Q : VK), Same G H → Hv F.K G (er ta) x → Hv F.K G (er tb') y → Q (.bl c) H → r x y H Q) (hm : behindInMarks op b = false) : Et F (.Compare a [op] [b] pos) ρ c := by
  obtain ⟨τ, p, q⟩ := ha.use
  obtain ⟨τ', p', q'⟩ := hb.use
  refine ⟨tTest (tOp r τ τ'), fun i => pt_cmpR (ho i) (p i) (p' i) hm, fun σ G H Q s rr k => ?_⟩
  refine q σ G H _ s rr fun x G1 H1 s1 hx => q' σ G1 H1 _ s1.s (rr.mono s1.g) fun y G2 H2 s2 hy => ?_
  exact h G2 H2 x y _ s2.s (hx.mono s2.g) hy ⟨c, rfl, k G2 H2 (s1.trans s2)⟩
theorem et_lt {i j : Int} (ha : Ev F a ρ (ti i)) (hb : Ev F b ρ (ti j)) : Et F (.Compare a [.Lt] [b] pos) ρ (decide (i < j)) := et_cmp (fun _ => op_lt) ha hb (fun G H x y Q s hx hy k => ⟨i, j, hvi hx, hvi hy, k⟩) (nomark _)
theorem et_gt {i j : Int} (ha : Ev F a ρ (ti i)) (hb : Ev F b ρ (ti j)) : Et F (.Compare a [.Gt] [b] pos) ρ (decide (j < i)) := et_cmp (fun _ => op_gt) ha hb (fun G H x y Q s hx hy k => ⟨i, j, hvi hx, hvi hy, k⟩) (nomark _)
theorem et_eq {i j : Int} (ha : Ev F a ρ (ti i)) (hb : Ev F b ρ (ti j)) : Et F (.Compare a [.Eq] [b] pos) ρ (decide (i = j)) := et_cmp (fun _ => op_eq) ha hb (fun G H x y Q s hx hy k => by
  rw [hvi hx, hvi hy]; exact ⟨rfl, by simpa using k⟩) (nomark _)
theorem et_ne {i j : Int} (ha : Ev F a ρ (ti i)) (hb : Ev F b ρ (ti j)) : Et F (.Compare a [.NotEq] [b] pos) ρ (!decide (i = j)) := et_cmp (fun _ => op_ne) ha hb (fun G H x y Q s hx hy k => by
  rw [hvi hx, hvi hy]; exact ⟨rfl, by simpa using k⟩) (nomark _)
theorem ev_lt {i j : Int} (ha : Ev F a ρ (ti i)) (hb : Ev F b ρ (ti j)) : Ev F (.Compare a [.Lt] [b] pos) ρ (tb (decide (i < j))) := ev_cmp (fun _ => op_lt) ha hb (fun G H x y Q s hx hy k => ⟨i, j, hvi hx, hvi hy, k⟩) (nomark _)
theorem ev_le {i j : Int} (ha : Ev F a ρ (ti i)) (hb : Ev F b ρ (ti j)) : Ev F (.Compare a [.LtE] [b] pos) ρ (tb (decide (i ≤ j))) := ev_cmp (fun _ => op_le) ha hb (fun G H x y Q s hx hy k => ⟨i, j, hvi hx, hvi hy, k⟩) (nomark _)
theorem ev_gt {i j : Int} (ha : Ev F a ρ (ti i)) (hb : Ev F b ρ (ti j)) : Ev F (.Compare a [.Gt] [b] pos) ρ (tb (decide (j < i))) := ev_cmp (fun _ => op_gt) ha hb (fun G H x y Q s hx hy k => ⟨i, j, hvi hx, hvi hy, k⟩) (nomark _)
def alikeD (d e : Dv) : Prop := (∃ xs ys, d = .lst xs ∧ e = .lst ys) ∨ ∃ xs ys, d = .tup xs ∧ e = .tup ys
theorem et_neS (ha : Ev F a ρ ta) (hb : Ev F b ρ tb') (hk : alikeD (er ta) (er tb')) (hd : dpD (er ta) ≤ 50) : Et F (.Compare a [.NotEq] [b] pos) ρ (!eqD (er ta) (er tb')) :=
  et_cmp (r := rEqS F.K true) (fun i => F.hK i ▸ op_neS (F.hr i).units) ha hb (fun G H x y Q s hx hy k => ⟨_, _, hk, hx.mono s, hy.mono s, hd, k⟩) (nomark _)
theorem ev_eqS (ha : Ev F a ρ ta) (hb : Ev F b ρ tb') (hk : alikeD (er ta) (er tb')) (hd : dpD (er ta) ≤ 50) : Ev F (.Compare a [.Eq] [b] pos) ρ (tb (eqD (er ta) (er tb'))) :=
  ev_cmp (r := rEqS F.K false) (fun i => F.hK i ▸ op_eqS (F.hr i).units) ha hb (fun G H x y Q s hx hy k => ⟨_, _, hk, hx.mono s, hy.mono s, hd, k⟩) (nomark _)
theorem hvl_ints {K : PySem.W.Frag} {G : Hp} : ∀ {ns : List Int} {vs : List V}, HvL K G (ns.map di) vs → vs = ns.map V.int
  | [], _, h => h
  | _ :: _, _, ⟨x, r, h1, h2, h3⟩ => by subst h1; rw [hvi h2, hvl_ints h3]; rfl
theorem ints_hvl {K : PySem.W.Frag} {G : Hp} : ∀ {ns : List Int}, HvL K G (ns.map di) (ns.map V.int)
  | [] => rfl
  | _ :: _ => ⟨_, _, rfl, ⟨rfl, rfl⟩, ints_hvl⟩
theorem inV_ints (n : Int) : ∀ ns : List Int, inV (.int n) (ns.map V.int) = ns.any fun m => m == n
  | [] => rfl
  | m :: ms => by
    show (eqV (.int m) (.int n) || inV (.int n) (ms.map V.int)) = _
    rw [inV_ints n ms]; rfl
theorem flat_ints (ns : List Int) : (ns.map V.int).all flatV = true := by rw [List.all_map]; exact List.all_eq_true.mpr fun _ _ => rfl
theorem any_contains (n : Int) (ns : List Int) : (ns.any fun m => m == n) = ns.contains n := by
  induction ns with
  | nil => rfl
  | cons m ms ih => rw [List.any_cons, ih, List.contains_cons]; congr 1; exact Bool.beq_comm
theorem in_int {n : Int} {ns : List Int} {neg : Bool} (eb : er tb' = dis ns) {G H : Hp} {x y : V} {Q : VK} (s : Same G H) (hx : Hv F.K G (er (ti n)) x) (hy : Hv F.K G (er tb') y) (k : Q (.bl (if neg then !ns.contains n else ns.contains n)) H) : rIn F.K neg x y H Q := by
  rw [eb] at hy
  obtain ⟨l, vs, rfl, h1, h2⟩ := hy
  have := hvl_ints h2
  subst this
  rw [hvi hx]
  refine ⟨l, _, rfl, .inl (s.seq h1), rfl, flat_ints ns, ?_⟩
  rw [inV_ints, any_contains]
  exact k
theorem et_in {n : Int} {ns : List Int} (ha : Ev F a ρ (ti n)) (hb : Ev F b ρ tb') (eb : er tb' = dis ns) (hm : behindInMarks .In b = false) : Et F (.Compare a [.In] [b] pos) ρ (ns.contains n) :=
  et_cmp (r := rIn F.K false) (fun i => F.hK i ▸ op_in_seq) ha hb (fun G H x y Q s hx hy k => in_int eb s hx hy k) hm
theorem et_notin {n : Int} {ns : List Int} (ha : Ev F a ρ (ti n)) (hb : Ev F b ρ tb') (eb : er tb' = dis ns) (hm : behindInMarks .NotIn b = false) : Et F (.Compare a [.NotIn] [b] pos) ρ (!ns.contains n) :=
  et_cmp (r := rIn F.K true) (fun i => F.hK i ▸ op_notIn_seq) ha hb (fun G H x y Q s hx hy k => in_int eb s hx hy k) hm
theorem et_val {c : Bool} (h : Ev F e ρ (tb c)) (he : ∀ i whole, isTrue e (F.cx i).env whole = (do let v ← whole; standAt e.pos; holding [v] (truthy v)) := by intro _ _; rfl) : Et F e ρ c := by
  obtain ⟨τ, p, q⟩ := h
  exact ⟨tB τ, fun i => pt_val (p i) (he i), fun σ G H Q s r k => q σ G H _ s r fun v G' H' fq st o w => ⟨c, hvi o.2, k G' H' st⟩⟩
def Ew (F : Fam ι) (e : Expr) (ρ : En) (b : Bool) : Prop := ∃ τ : TT, (∀ i, PW (F.cx i) e τ) ∧ ∀ σ G H Q, Same G H → RpD F.K G ρ σ → (∀ G' H', Step G H G' H' → Q b H') → τ σ H Q
theorem Ew.et {p : Bool} (h : Ew F e ρ p) : Et F e ρ p := let ⟨τ, a, b⟩ := h; ⟨τ, fun i => (a i).pt, b⟩
theorem pw_never {X : Cx} : PW X e (fun _ _ _ => False) := fun _ _ _ _ _ _ _ h => h.elim
theorem ew_and1 {p : Bool} (h : Et F a ρ p) : Ew F (.BoolOp .And [a] pos) ρ p := let ⟨τ, x, y⟩ := h; ⟨τ, fun i => pw_and1 (x i), y⟩
theorem ew_or1 {p : Bool} (h : Et F a ρ p) : Ew F (.BoolOp .Or [a] pos) ρ p := let ⟨τ, x, y⟩ := h; ⟨τ, fun i => pw_or1 (x i), y⟩
theorem ew_and {p q : Bool} {rest : List Expr} (h : Et F a ρ p) (h2 : p = true → Ew F (.BoolOp .And (b :: rest) pos) ρ q) : Ew F (.BoolOp .And (a :: b :: rest) pos) ρ (p && q) := by
  obtain ⟨τ, x, y⟩ := h
  cases p with
  | false => exact ⟨tAnd τ _, fun i => pw_and (x i) pw_never, fun σ G H Q s r k => y σ G H _ s r fun G' H' st => iteF (k G' H' st)⟩
  | true =>
    obtain ⟨τ', x', y'⟩ := h2 rfl
    exact ⟨tAnd τ τ', fun i => pw_and (x i) (x' i), fun σ G H Q s r k => y σ G H _ s r fun G1 H1 s1 => iteT (y' σ G1 H1 _ s1.s (r.mono s1.g) fun G2 H2 s2 => k G2 H2 (s1.trans s2))⟩
theorem ew_or {p q : Bool} {rest : List Expr} (h : Et F a ρ p) (h2 : p = false → Ew F (.BoolOp .Or (b :: rest) pos) ρ q) : Ew F (.BoolOp .Or (a :: b :: rest) pos) ρ (p || q) := by
  obtain ⟨τ, x, y⟩ := h
  cases p with
  | true => exact ⟨tOr τ _, fun i => pw_or (x i) pw_never, fun σ G H Q s r k => y σ G H _ s r fun G' H' st => iteT (k G' H' st)⟩
  | false =>
    obtain ⟨τ', x', y'⟩ := h2 rfl
    exact ⟨tOr τ τ', fun i => pw_or (x i) (x' i), fun σ G H Q s r k => y σ G H _ s r fun G1 H1 s1 => iteF (y' σ G1 H1 _ s1.s (r.mono s1.g) fun G2 H2 s2 => k G2 H2 (s1.trans s2))⟩
theorem et_not {p : Bool} (h : Et F a ρ p) : Et F (.UnaryOp .Not a pos) ρ (!p) := by
  obtain ⟨τ, x, y⟩ := h
  exact ⟨tNot τ, fun i => pt_not (x i), fun σ G H Q s r k => y σ G H _ s r k⟩
theorem pe_never {X : Cx} : PE X e (fun _ _ _ => False) := fun _ _ _ _ _ _ h => h.elim
theorem ev_one {op : BoolOp} {t : Tr} (h : Ev F a ρ t) : Ev F (.BoolOp op [a] pos) ρ t := let ⟨τ, x, y⟩ := h; ⟨τ, fun i => pe_one (x i), y⟩
theorem ev_and {p q : Bool} {rest : List Expr} (h : Ev F a ρ (tb p)) (h2 : p = true → Ev F (.BoolOp .And (b :: rest) pos) ρ (tb q)) : Ev F (.BoolOp .And (a :: b :: rest) pos) ρ (tb (p && q)) := by
  obtain ⟨τ, x, y⟩ := h.use
  cases p with
  | false => exact ⟨tAndV τ _, fun i => pe_and (x i) pe_never, fun σ G H Q s r k => y σ G H _ s r fun v G' H' st hv => ⟨false, hvi hv, iteF ((k.step st).sc st.s rfl)⟩⟩
  | true =>
    obtain ⟨τ', x', y'⟩ := h2 rfl
    exact ⟨tAndV τ τ', fun i => pe_and (x i) (x' i), fun σ G H Q s r k => y σ G H _ s r fun v G1 H1 s1 hv => ⟨true, hvi hv, iteT (y' σ G1 H1 _ s1.s (r.mono s1.g) (k.step s1))⟩⟩
theorem ev_not {p : Bool} (h : Ev F a ρ (tb p)) : Ev F (.UnaryOp .Not a pos) ρ (tb (!p)) := by
  obtain ⟨τ, x, y⟩ := h.use
  exact ⟨tNotV τ, fun i => pe_not (x i), fun σ G H Q s r k => y σ G H _ s r fun v G' H' st hv => ⟨p, hvi hv, (k.step st).sc st.s rfl⟩⟩
theorem ev_if {p : Bool} (hc : Et F c ρ p) (h1 : p = true → Ev F a ρ t) (h2 : p = false → Ev F b ρ t) : Ev F (.IfExp c a b pos) ρ t := by
  obtain ⟨τ, x, y⟩ := hc
  cases p with
  | true =>
    obtain ⟨τ', x', y'⟩ := h1 rfl
    exact ⟨tIf τ τ' _, fun i => pe_ifExp (x i) (x' i) pe_never, fun σ G H Q s r k => y σ G H _ s r fun G1 H1 s1 => iteT (y' σ G1 H1 _ s1.s (r.mono s1.g) (k.step s1))⟩
  | false =>
    obtain ⟨τ', x', y'⟩ := h2 rfl
    exact ⟨tIf τ _ τ', fun i => pe_ifExp (x i) pe_never (x' i), fun σ G H Q s r k => y σ G H _ s r fun G1 H1 s1 => iteF (y' σ G1 H1 _ s1.s (r.mono s1.g) (k.step s1))⟩
theorem ev_lst (h : EvA F es ρ ts) (hz : ts.length ≤ sizeLine) : Ev F (.List es pos) ρ (.ow ts) := by
  obtain ⟨τ, x, y⟩ := h
  refine ⟨tLst τ, fun i => pe_lst (x i), fun σ G H Q s r k => y σ G H _ s r fun vs G1 H1 fq s1 o w => ⟨by rw [← o.length]; exact hz, fun p hp => ?_⟩⟩
  have np : p ∉ fq := fun z => by
    obtain ⟨u, hu⟩ := o.there p z
    rw [hp] at hu; cases hu
  exact k (.ref p) G1 _ (p :: fq) (s1.trans (.newO s1.s hp)) ⟨p, vs, fq, rfl, upd_same, o.mono (Same.refl _) (Same.new hp), rfl⟩
    ⟨fun a ha => (List.mem_cons.mp ha).elim (fun z => by rw [z]; exact s1.h.free hp) (w.n a), fun a ha => (List.mem_cons.mp ha).elim (fun z => by rw [z]; exact s1.s.free hp) (w.g a), List.nodup_cons.mpr ⟨np, w.d⟩⟩
theorem ev_tup {x1} (h : EvA F es ρ ts) (hz : ts.length ≤ sizeLine) : Ev F (.Tuple es x1 pos) ρ (.tp ts) := by
  obtain ⟨τ, x, y⟩ := h
  refine ⟨tTup τ, fun i => pe_tup (x i), fun σ G H Q s r k => y σ G H _ s r fun vs G1 H1 fq s1 o w => ⟨by rw [← o.length]; exact hz, fun p hp => ?_⟩⟩
  have np : p ∉ fq := fun z => by
    obtain ⟨u, hu⟩ := o.there p z
    rw [hp] at hu; cases hu
  exact k (.ref p) G1 _ (p :: fq) (s1.trans (.newO s1.s hp)) ⟨p, vs, fq, rfl, upd_same, o.mono (Same.refl _) (Same.new hp), rfl⟩
    ⟨fun a ha => (List.mem_cons.mp ha).elim (fun z => by rw [z]; exact s1.h.free hp) (w.n a), fun a ha => (List.mem_cons.mp ha).elim (fun z => by rw [z]; exact s1.s.free hp) (w.g a), List.nodup_cons.mpr ⟨np, w.d⟩⟩
theorem ev_tupD {x1} {dd : List Dv} (h : EvA F es ρ ts) (ed : ers ts = dd) (hz : ts.length ≤ sizeLine) : Ev F (.Tuple es x1 pos) ρ (.fz (.tup dd)) := ed ▸ (ev_tup h hz).fz
theorem HvL.get {K : PySem.W.Frag} {G : Hp} : ∀ {ds : List Dv} {vs : List V} {j : Nat} {d : Dv}, HvL K G ds vs → ds[j]? = some d → ∃ v, vs[j]? = some v ∧ Hv K G d v
  | _ :: _, _, 0, _, ⟨x, r, h1, h2, h3⟩, h => by cases h; subst h1; exact ⟨x, rfl, h2⟩
  | _ :: _, _, j + 1, d, ⟨x, r, h1, h2, h3⟩, h => by
    subst h1
    obtain ⟨v, q1, q2⟩ := HvL.get (j := j) h3 h
    exact ⟨v, q1, q2⟩
theorem HvL.at {K : PySem.W.Frag} {G : Hp} {ds : List Dv} {vs : List V} {k : Int} {d : Dv} (h : HvL K G ds vs) (hk : atI ds k = some d) : ∃ v, atI vs k = some v ∧ Hv K G d v := by
  unfold atI at hk ⊢
  rw [← h.length]
  cases q : ixN ds.length k with
  | none => rw [q] at hk; cases hk
  | some j => rw [q] at hk; exact h.get hk
theorem ev_ix {xs : List Dv} {k : Int} {d : Dv} (ha : Ev F a ρ ta) (hb : Ev F b ρ (ti k)) (ea : er ta = .lst xs) (hk : atI xs k = some d) (hs : PlainIx b := by exact fun _ _ => rfl) : Ev F (.Subscript a b pos) ρ (.fz d) := by
  obtain ⟨τ, p, q⟩ := ha.use
  obtain ⟨τ', p', q'⟩ := hb.use
  refine ⟨tOp (rIxL F.K) τ τ', fun i => pe_ix (ix_listK (F.hK i)) (p i) (p' i) hs, fun σ G H Q s rr k => ?_⟩
  refine q σ G H _ s rr fun x G1 H1 s1 hx => q' σ G1 H1 _ s1.s (rr.mono s1.g) fun y G2 H2 s2 hy => ?_
  rw [ea] at hx
  obtain ⟨l, vs, rfl, h1, h2⟩ := hx
  obtain ⟨v, h3, h4⟩ := h2.at hk
  exact ⟨l, vs, _, v, rfl, hvi hy, (s2.g.trans s2.s).seq h1, h3, (k.step (s1.trans s2)).dat s2.s (h4.mono s2.g)⟩
theorem ev_ixT {xs : List Dv} {k : Int} {d : Dv} (ha : Ev F a ρ ta) (hb : Ev F b ρ (ti k)) (ea : er ta = .tup xs) (hk : atI xs k = some d) (hs : PlainIx b := by exact fun _ _ => rfl) : Ev F (.Subscript a b pos) ρ (.fz d) := by
  obtain ⟨τ, p, q⟩ := ha.use
  obtain ⟨τ', p', q'⟩ := hb.use
  refine ⟨tOp (rIxT F.K) τ τ', fun i => pe_ix (ix_tupK (F.hK i)) (p i) (p' i) hs, fun σ G H Q s rr k => ?_⟩
  refine q σ G H _ s rr fun x G1 H1 s1 hx => q' σ G1 H1 _ s1.s (rr.mono s1.g) fun y G2 H2 s2 hy => ?_
  rw [ea] at hx
  obtain ⟨l, vs, rfl, h1, h2⟩ := hx
  obtain ⟨v, h3, h4⟩ := h2.at hk
  exact ⟨l, vs, _, v, rfl, hvi hy, (s2.g.trans s2.s).tup h1, h3, (k.step (s1.trans s2)).dat s2.s (h4.mono s2.g)⟩
theorem HvL.reverse {K : PySem.W.Frag} {G : Hp} : ∀ {ds : List Dv} {vs : List V}, HvL K G ds vs → HvL K G ds.reverse vs.reverse
  | [], _, h => by rw [show _ = [] from h]; exact rfl
  | _ :: _, _, ⟨x, r, h1, h2, h3⟩ => by
    subst h1
    rw [List.reverse_cons, List.reverse_cons]
    exact HvL.app (HvL.reverse h3) ⟨x, [], rfl, h2, rfl⟩
where
  HvL.app {K : PySem.W.Frag} {G : Hp} : ∀ {ds es : List Dv} {vs ws : List V}, HvL K G ds vs → HvL K G es ws → HvL K G (ds ++ es) (vs ++ ws)
  | [], _, _, _, h, q => by rw [show _ = [] from h]; exact q
  | _ :: _, _, _, ws, ⟨x, r, h1, h2, h3⟩, q => by subst h1; exact ⟨x, r ++ ws, rfl, h2, HvL.app h3 q⟩
theorem ev_callB {id : String} {x : Str} {r : List V → Hp → VK → Prop} (hc : ∀ i, CallR (F.cx i) (.builtin id) r) (hm : F.mg x = none) (hv : bootBuiltins x = some (.builtin id)) (ha : EvA F (e :: es) ρ ts)
    (h : ∀ G H xs Q, Same G H → HvL F.K G (ers ts) xs → Kv F.K G H t Q → r xs H Q) {p' : Pos} (hg : ∀ i, Gl (F.cx i) x := by intro _; rfl) (hn : x ≠ "__name__" := by decide) (hdb : (x == ("__debug__" : Str)) = false := by decide)
    (he : ∀ i, starEach (e :: es) (F.cx i).env = (false, eval e (F.cx i).env) :: starEach es (F.cx i).env := by intro _; rfl) (hpl : ∀ i, (backTo pos (starEach es (F.cx i).env)).any (·.1) = false := by intro _; rfl) : Ev F (.Call (.Name x p') (e :: es) [] pos) ρ t := by
  obtain ⟨τ, y, z⟩ := ha.use
  refine ⟨tCB r τ, fun i => pe_callB (hc i) (hg i) ((F.hm i).symm ▸ hm) hv (y i) hn hdb (he i) (hpl i), fun σ G H Q s rr k => z σ G H _ s rr fun vs G1 H1 s1 hx => ?_⟩
  exact h G1 H1 vs Q s1.s hx (k.step s1)
theorem ev_callT {T : String} {x : Str} {r : List V → Hp → VK → Prop} (hc : ∀ i, CallR (F.cx i) (.type T) r) (hm : F.mg x = none) (hv : bootBuiltins x = some (.type T)) (ha : EvA F (e :: es) ρ ts)
    (h : ∀ G H xs Q, Same G H → HvL F.K G (ers ts) xs → Kv F.K G H t Q → r xs H Q) {p' : Pos} (hg : ∀ i, Gl (F.cx i) x := by intro _; rfl) (hn : x ≠ "__name__" := by decide) (hdb : (x == ("__debug__" : Str)) = false := by decide)
    (he : ∀ i, starEach (e :: es) (F.cx i).env = (false, eval e (F.cx i).env) :: starEach es (F.cx i).env := by intro _; rfl) (hpl : ∀ i, (backTo pos (starEach es (F.cx i).env)).any (·.1) = false := by intro _; rfl) : Ev F (.Call (.Name x p') (e :: es) [] pos) ρ t := by
  obtain ⟨τ, y, z⟩ := ha.use
  refine ⟨tCB r τ, fun i => pe_callTy (hc i) (hg i) ((F.hm i).symm ▸ hm) hv (y i) hn hdb (he i) (hpl i), fun σ G H Q s rr k => z σ G H _ s rr fun vs G1 H1 s1 hx => ?_⟩
  exact h G1 H1 vs Q s1.s hx (k.step s1)
theorem hvl1 {K : PySem.W.Frag} {G : Hp} {d : Dv} {xs : List V} (h : HvL K G [d] xs) : ∃ x, xs = [x] ∧ Hv K G d x := by
  obtain ⟨x, r, h1, h2, h3⟩ := h
  exact ⟨x, by rw [h1, show r = [] from h3], h2⟩
theorem hvl2 {K : PySem.W.Frag} {G : Hp} {d d' : Dv} {xs : List V} (h : HvL K G [d, d'] xs) : ∃ x y, xs = [x, y] ∧ Hv K G d x ∧ Hv K G d' y := by
  obtain ⟨x, r, h1, h2, h3⟩ := h
  obtain ⟨y, rfl, h4⟩ := hvl1 h3
  exact ⟨x, y, h1, h2, h4⟩
theorem ev_len {xs : List Dv} (hm : F.mg "len" = none) (ha : Ev F e ρ ta) (ea : er ta = .lst xs ∨ er ta = .tup xs) {p' : Pos} (hg : ∀ i, Gl (F.cx i) "len" := by intro _; rfl)
    (hs : ∀ i, starEach [e] (F.cx i).env = [(false, eval e (F.cx i).env)] := by intro _; rfl) : Ev F (.Call (.Name "len" p') [e] [] pos) ρ (ti xs.length) :=
  ev_callB (r := fun xs H Q => ∃ p ys, xs = [.ref p] ∧ (SqL F.K H p ys ∨ SqT F.K H p ys) ∧ Q (.int ys.length) H) (fun i => call_lenK (F.hK i)) hm bt_len (eva_cons ha eva_nil hs) (fun G H vs Q s hx k => by
    obtain ⟨x, rfl, hxx⟩ := hvl1 hx
    replace hx := hxx
    rcases ea with ea | ea
    · rw [ea] at hx
      obtain ⟨l, ys, rfl, h1, h2⟩ := hx
      exact ⟨l, ys, rfl, .inl (s.seq h1), by rw [← h2.length]; exact k.sc s rfl⟩
    · rw [ea] at hx
      obtain ⟨l, ys, rfl, h1, h2⟩ := hx
      exact ⟨l, ys, rfl, .inr (s.tup h1), by rw [← h2.length]; exact k.sc s rfl⟩) hg (by decide) (by decide) hs (fun _ => rfl)
theorem ev_list {xs : List Dv} (hm : F.mg "list" = none) (ha : Ev F e ρ ta) (ea : er ta = .lst xs ∨ er ta = .tup xs) {p' : Pos} (hg : ∀ i, Gl (F.cx i) "list" := by intro _; rfl)
    (hs : ∀ i, starEach [e] (F.cx i).env = [(false, eval e (F.cx i).env)] := by intro _; rfl) : Ev F (.Call (.Name "list" p') [e] [] pos) ρ (.ow (xs.map .fz)) :=
  ev_callT (r := fun xs H Q => ∃ p ys, xs = [.ref p] ∧ (SqL F.K H p ys ∨ SqT F.K H p ys) ∧ ∀ l, H l = none → Q (.ref l) (upd H l (.lst ys))) (fun i => F.hK i ▸ call_list_of) hm bt_list (eva_cons ha eva_nil hs) (fun G H vs Q s hx k => by
    obtain ⟨x, rfl, hxx⟩ := hvl1 hx
    replace hx := hxx
    rcases ea with ea | ea
    · rw [ea] at hx
      obtain ⟨l, ys, rfl, h1, h2⟩ := hx
      exact ⟨l, ys, rfl, .inl (s.seq h1), fun p hp => k.lst s h2.owl hp⟩
    · rw [ea] at hx
      obtain ⟨l, ys, rfl, h1, h2⟩ := hx
      exact ⟨l, ys, rfl, .inr (s.tup h1), fun p hp => k.lst s h2.owl hp⟩) hg (by decide) (by decide) hs (fun _ => rfl)
theorem ev_sum {ns : List Int} (hm : F.mg "sum" = none) (ha : Ev F e ρ ta) (ea : er ta = dis ns) {p' : Pos} (hg : ∀ i, Gl (F.cx i) "sum" := by intro _; rfl)
    (hs : ∀ i, starEach [e] (F.cx i).env = [(false, eval e (F.cx i).env)] := by intro _; rfl) : Ev F (.Call (.Name "sum" p') [e] [] pos) ρ (ti ns.sum) :=
  ev_callB (r := rSum F.K) (fun i => F.hK i ▸ call_sum (F.calm i)) hm bt_sum (eva_cons ha eva_nil hs) (fun G H vs Q s hx k => by
    obtain ⟨x, rfl, hxx⟩ := hvl1 hx
    replace hx := hxx
    rw [ea] at hx
    obtain ⟨l, ys, rfl, h1, h2⟩ := hx
    have := hvl_ints h2
    subst this
    exact ⟨l, ns, rfl, s.seq h1, k.sc s rfl⟩) hg (by decide) (by decide) hs (fun _ => rfl)
theorem ev_abs {n : Int} (hm : F.mg "abs" = none) (ha : Ev F e ρ (ti n)) {p' : Pos} (hg : ∀ i, Gl (F.cx i) "abs" := by intro _; rfl)
    (hs : ∀ i, starEach [e] (F.cx i).env = [(false, eval e (F.cx i).env)] := by intro _; rfl) : Ev F (.Call (.Name "abs" p') [e] [] pos) ρ (ti (if n < 0 then -n else n)) :=
  ev_callB (fun i => call_abs) hm bt_abs (eva_cons ha eva_nil hs) (fun G H vs Q s hx k => by
    obtain ⟨x, rfl, hxx⟩ := hvl1 hx
    replace hx := hxx
    exact ⟨n, by rw [hvi hx], k.sc s rfl⟩) hg (by decide) (by decide) hs (fun _ => rfl)
def tyD : Dv → Value
  | .fl .non => .type "NoneType"
  | .fl (.bl _) => .type "bool"
  | .fl (.int _) => .type "int"
  | .fl (.str _) => .type "str"
  | .fl _ => .none
  | .lst _ => .type "list"
  | .tup _ => .type "tuple"
def rIsD (K : PySem.W.Frag) (d : Dv) (n : String) (b : Bool) : List V → Hp → VK → Prop := fun xs H Q => ∃ x, xs = [x, .ty n] ∧ Hv K H d x ∧ PySem.W.kitOne K (tyD d) (.type n) = some b ∧ Q (.bl b) H
theorem call_isD {X : Cx} {d : Dv} {n : String} {b : Bool} : CallR X (.builtin "isinstance") (rIsD X.K d n b) := by
  intro pins s σ H xs us Q I r h
  obtain ⟨x, rfl, hx, hb, q⟩ := h
  cases r with
  | cons r1 rr => cases rr with
    | cons r2 rr =>
      cases rr
      cases (show _ = Value.type n from r2)
      have fin : ∀ tk, EP X pins σ Q (.bool b) { s with toks := tk } := fun tk => ⟨.bl b, H, I.tok tk, rfl, q⟩
      cases d with
      | fl v =>
        obtain ⟨rfl, f⟩ := hx
        cases x with
        | non => exact isinst_ok I r1 .non hb fin
        | bl y => exact isinst_ok I r1 (.bl y) hb fin
        | int y => exact isinst_ok I r1 (.int y) hb fin
        | str y => exact isinst_ok I r1 (.str y) hb fin
        | byt y => cases f
        | flt y => cases f
        | ref y => cases f
        | ty y => cases f
      | lst ds =>
        obtain ⟨a, xs, rfl, h1, _⟩ := hx
        cases r1
        obtain ⟨its, _, ⟨o, n, h2, h3, _⟩, _⟩ := I.list h1
        exact PySem.W.kia_one PySem.W.kitx_list I.kIn ⟨o, h2, h3⟩ hb (fun z => nomatch z) fin
      | tup ds =>
        obtain ⟨a, xs, rfl, h1, _⟩ := hx
        cases r1
        obtain ⟨its, _, ⟨o, h2, h3, _⟩, _⟩ := I.tuple h1
        exact PySem.W.kia_one PySem.W.kitx_tuple I.kIn ⟨o, h2, h3⟩ hb (fun z => nomatch z) fin
theorem ev_isi {x : Str} {n : String} {bo : Bool} (hm : F.mg "isinstance" = none) (hm2 : F.mg x = none) (hv : bootBuiltins x = some (.type n)) (ha : Ev F e ρ ta) (hk : PySem.W.kitOne F.K (tyD (er ta)) (.type n) = some bo) {p' p2 : Pos} (hg : ∀ i, Gl (F.cx i) "isinstance" := by intro _; rfl)
    (hg2 : ∀ i, Gl (F.cx i) x := by intro _; rfl) (hn : x ≠ "__name__" := by decide) (hd : (x == ("__debug__" : Str)) = false := by decide)
    (hs : ∀ i, starEach [e, .Name x p2] (F.cx i).env = [(false, eval e (F.cx i).env), (false, eval (.Name x p2) (F.cx i).env)] := by intro _; rfl) : Ev F (.Call (.Name "isinstance" p') [e, .Name x p2] [] pos) ρ (tb bo) := by
  obtain ⟨τ, y, z⟩ := ha.use
  refine ⟨tCB (rIsD F.K (er ta) n bo) (tCons τ (tCons (tC (.ty n)) tNil)), fun i => pe_callB (F.hK i ▸ call_isD) (hg i) ((F.hm i).symm ▸ hm) bt_isinstance (pa_cons (y i) (pa_cons (pe_bltn (v := .ty n) (hg2 i) ((F.hm i).symm ▸ hm2) hv rfl hn hd) pa_nil rfl) (hs i)) (by decide) (by decide) (hs i) rfl, fun σ G H Q s rr k => z σ G H _ s rr fun vs G1 H1 s1 hx => ?_⟩
  exact ⟨vs, rfl, hx.mono s1.s, hk, (k.step s1).sc s1.s rfl⟩
def spT (K : PySem.W.Frag) (R : List Dv → Tr → Prop) : Sp := fun vs H Q _ => ∃ G ds t, Same G H ∧ HvL K G ds vs ∧ R ds t ∧ Kv K G H t Q
theorem ev_call {k : Nat} {f : Addr} {fd : FuncData} {ps : List Str} {R : List Dv → Tr → Prop} {x : Str} (Fn : Kn F.P F.w F.K F.mg F.base CX0 k x f fd ps (spT F.K R)) (hk : k ≤ F.room) (ha : EvA F (e :: es) ρ ts) (hR : R (ers ts) t) {p' : Pos} (hg : ∀ i, Gl (F.cx i) x := by intro _; rfl) (hdb : (x == ("__debug__" : Str)) = false := by decide)
    (he : ∀ i, starEach (e :: es) (F.cx i).env = (false, eval e (F.cx i).env) :: starEach es (F.cx i).env := by intro _; rfl) (hpl : ∀ i, (backTo pos (starEach es (F.cx i).env)).any (·.1) = false := by intro _; rfl) : Ev F (.Call (.Name x p') (e :: es) [] pos) ρ t := by
  obtain ⟨τ, y, z⟩ := ha.use
  refine ⟨tCall (spT F.K R) [] E0 τ, fun i => ?_, fun σ G H Q s rr k => z σ G H _ s rr fun vs G1 H1 s1 hx => ?_⟩
  · have Fn' : Kn (F.cx i).prog (F.cx i).w (F.cx i).K (F.cx i).mg (F.cx i).base CX0 k x f fd ps (spT F.K R) := by
      rw [F.hP i, F.hw i, F.hK i, F.hm i, F.hb i]
      exact Fn
    exact pe_kn Fn' ((F.hr i).mono hk) (hg i) (y i) hdb (he i) (hpl i)
  · show spT F.K R (vs ++ []) H1 Q E0
    rw [List.append_nil]
    exact ⟨G1, _, t, s1.s, hx, hR, k.step s1⟩
end
end L2
namespace L2
open PySem PySem.Spec PyProof.Rows
def OwS (K : PySem.W.Frag) (G H : Hp) : En → St → List Addr → Prop
  | [], σ, fp => σ = [] ∧ fp = []
  | none :: ρ, σ, fp => ∃ o r, σ = o :: r ∧ OwS K G H ρ r fp
  | some t :: ρ, σ, fp => ∃ v r f1 f2, σ = some v :: r ∧ fp = f1 ++ f2 ∧ Ow K G H t v f1 ∧ OwS K G H ρ r f2
theorem OwS.mono {K : PySem.W.Frag} {G G' H H' : Hp} (e : Same G G') (e' : Same H H') : ∀ {ρ : En} {σ : St} {fp : List Addr}, OwS K G H ρ σ fp → OwS K G' H' ρ σ fp
  | [], _, _, h => h
  | none :: _, _, _, ⟨o, r, h1, h2⟩ => ⟨o, r, h1, OwS.mono e e' h2⟩
  | some _ :: _, _, _, ⟨v, r, f1, f2, h1, h2, h3, h4⟩ => ⟨v, r, f1, f2, h1, h2, h3.mono e e', OwS.mono e e' h4⟩
theorem OwS.frame {K : PySem.W.Frag} {G H : Hp} {a : Addr} {o : HO} : ∀ {ρ : En} {σ : St} {fp : List Addr}, OwS K G H ρ σ fp → a ∉ fp → OwS K G (upd H a o) ρ σ fp
  | [], _, _, h, _ => h
  | none :: _, _, _, ⟨o, r, h1, h2⟩, n => ⟨o, r, h1, OwS.frame h2 n⟩
  | some _ :: _, _, _, ⟨v, r, f1, f2, h1, h2, h3, h4⟩, n => by
    subst h2
    exact ⟨v, r, f1, f2, h1, rfl, h3.frame fun z => n (List.mem_append_left _ z), OwS.frame h4 fun z => n (List.mem_append_right _ z)⟩
theorem OwS.there {K : PySem.W.Frag} {G H : Hp} : ∀ {ρ : En} {σ : St} {fp : List Addr}, OwS K G H ρ σ fp → ∀ a ∈ fp, ∃ o, H a = some o
  | [], _, _, ⟨_, h⟩, a, ha => by subst h; cases ha
  | none :: _, _, _, ⟨o, r, h1, h2⟩, a, ha => OwS.there h2 a ha
  | some _ :: _, _, _, ⟨v, r, f1, f2, h1, h2, h3, h4⟩, a, ha => by
    subst h2
    rcases List.mem_append.mp ha with ha | ha
    · exact h3.there a ha
    · exact OwS.there h4 a ha
theorem OwS.off {K : PySem.W.Frag} {G H G1 H1 : Hp} {ρ : En} {σ : St} {fp : List Addr} (r : OwS K G H ρ σ fp) (s1 : Step G H G1 H1) (g : ∀ a ∈ fp, G a = none) : ∀ a ∈ fp, G1 a = none := fun a ha => by
  cases q : G1 a with
  | none => rfl
  | some u =>
    obtain ⟨u', hu'⟩ := r.there a ha
    have := s1.n a (g a ha) (by rw [q]; exact fun z => nomatch z)
    rw [hu'] at this
    cases this
theorem OwS.rpd {K : PySem.W.Frag} {G H : Hp} : ∀ {ρ : En} {σ : St} {fp : List Addr}, OwS K G H ρ σ fp → RpD K G ρ σ
  | [], _, _, _, j, d, h => by cases j <;> cases h
  | none :: _, _, _, ⟨o, r, h1, h2⟩, 0, d, h => by cases h
  | none :: _, _, _, ⟨o, r, h1, h2⟩, j + 1, d, h => by subst h1; exact OwS.rpd h2 j d h
  | some _ :: _, _, _, ⟨v, r, f1, f2, h1, h2, h3, h4⟩, 0, d, h => by cases h; subst h1; exact ⟨v, rfl, h3.2⟩
  | some _ :: _, _, _, ⟨v, r, f1, f2, h1, h2, h3, h4⟩, j + 1, d, h => by subst h1; exact OwS.rpd h4 j d h
def pk (ρ : En) : En := ρ.map (Option.map fun t => .fz (er t))
theorem OwS.pk {K : PySem.W.Frag} {G H G' : Hp} (e : Same G G') : ∀ {ρ : En} {σ : St} {fp : List Addr}, OwS K G H ρ σ fp → (∀ a ∈ fp, G' a = H a) → RpD K G' (pk ρ) σ
  | [], _, _, _, _, j, d, h => by cases j <;> cases h
  | none :: _, _, _, ⟨o, r, h1, h2⟩, _, 0, d, h => by cases h
  | none :: _, _, _, ⟨o, r, h1, h2⟩, q, j + 1, d, h => by subst h1; exact OwS.pk e h2 q j d h
  | some _ :: _, _, _, ⟨v, r, f1, f2, h1, h2, h3, h4⟩, q, 0, d, h => by
    cases h; subst h1 h2; exact ⟨v, rfl, h3.hv e fun a ha => q a (List.mem_append_left _ ha)⟩
  | some _ :: _, _, _, ⟨v, r, f1, f2, h1, h2, h3, h4⟩, q, j + 1, d, h => by
    subst h1 h2; exact OwS.pk e h4 (fun a ha => q a (List.mem_append_right _ ha)) j d h
theorem OwS.split {K : PySem.W.Frag} {G H : Hp} : ∀ {ρ : En} {σ : St} {fp : List Addr} {j : Nat} {t : Tr}, OwS K G H ρ σ fp → ρ[j]? = some (some t) →
    ∃ v f fr, σ[j]? = some (some v) ∧ Ow K G H t v f ∧ OwS K G H (ρ.set j none) σ fr ∧ fp.Perm (f ++ fr)
  | none :: _, _, _, 0, _, _, h => by cases h
  | none :: _, _, _, j + 1, t, ⟨o, r, h1, h2⟩, h => by
    subst h1
    obtain ⟨v, f, fr, q1, q2, q3, q4⟩ := OwS.split (j := j) h2 h
    exact ⟨v, f, fr, q1, q2, ⟨o, r, rfl, q3⟩, q4⟩
  | some _ :: _, _, _, 0, t, ⟨v, r, f1, f2, h1, h2, h3, h4⟩, h => by
    cases h; subst h1 h2
    exact ⟨v, f1, f2, rfl, h3, ⟨some v, r, rfl, h4⟩, .refl _⟩
  | some _ :: _, _, _, j + 1, t, ⟨v, r, f1, f2, h1, h2, h3, h4⟩, h => by
    subst h1 h2
    obtain ⟨v', f, fr, q1, q2, q3, q4⟩ := OwS.split (j := j) h4 h
    refine ⟨v', f, f1 ++ fr, q1, q2, ⟨v, r, f1, fr, rfl, rfl, h3, q3⟩, ?_⟩
    refine (List.Perm.append_left f1 q4).trans ?_
    rw [← List.append_assoc, ← List.append_assoc]
    exact List.Perm.append_right fr List.perm_append_comm
theorem OwS.forget {K : PySem.W.Frag} {G H : Hp} : ∀ {ρ : En} {σ : St} {fp : List Addr} (j : Nat), OwS K G H ρ σ fp → ∃ fr, OwS K G H (ρ.set j none) σ fr ∧ fr.Sublist fp
  | [], _, _, _, h => ⟨_, h, .refl _⟩
  | none :: _, _, _, 0, ⟨o, r, h1, h2⟩ => ⟨_, ⟨o, r, h1, h2⟩, .refl _⟩
  | none :: _, _, _, j + 1, ⟨o, r, h1, h2⟩ => by
    obtain ⟨fr, q1, q2⟩ := OwS.forget j h2
    exact ⟨fr, ⟨o, r, h1, q1⟩, q2⟩
  | some _ :: _, _, _, 0, ⟨v, r, f1, f2, h1, h2, h3, h4⟩ => ⟨f2, ⟨some v, r, h1, h4⟩, h2 ▸ List.sublist_append_right _ _⟩
  | some _ :: _, _, _, j + 1, ⟨v, r, f1, f2, h1, h2, h3, h4⟩ => by
    obtain ⟨fr, q1, q2⟩ := OwS.forget j h4
    exact ⟨f1 ++ fr, ⟨v, r, f1, fr, h1, rfl, h3, q1⟩, h2 ▸ List.Sublist.append (.refl _) q2⟩
theorem OwS.put {K : PySem.W.Frag} {G H : Hp} : ∀ {ρ : En} {σ : St} {fr : List Addr} {j : Nat} {t : Tr} {v : V} {f : List Addr}, OwS K G H ρ σ fr → ρ[j]? = some none → Ow K G H t v f →
    ∃ fp, OwS K G H (ρ.set j (some t)) (σ.set j (some v)) fp ∧ fp.Perm (f ++ fr)
  | none :: _, _, fr, 0, t, v, f, ⟨o, r, h1, h2⟩, _, w => by subst h1; exact ⟨_, ⟨v, r, f, fr, rfl, rfl, w, h2⟩, .refl _⟩
  | none :: _, _, _, j + 1, t, v, f, ⟨o, r, h1, h2⟩, h, w => by
    subst h1
    obtain ⟨fp, q1, q2⟩ := OwS.put (j := j) h2 h w
    exact ⟨fp, ⟨o, _, rfl, q1⟩, q2⟩
  | some _ :: _, _, _, 0, _, _, _, _, h, _ => by cases h
  | some _ :: _, _, _, j + 1, t, v, f, ⟨v', r, f1, f2, h1, h2, h3, h4⟩, h, w => by
    subst h1 h2
    obtain ⟨fp, q1, q2⟩ := OwS.put (j := j) h4 h w
    refine ⟨f1 ++ fp, ⟨v', _, f1, fp, rfl, rfl, h3, q1⟩, ?_⟩
    refine (List.Perm.append_left f1 q2).trans ?_
    rw [← List.append_assoc, ← List.append_assoc]
    exact List.Perm.append_right f2 List.perm_append_comm
theorem OwS.len {K : PySem.W.Frag} {G H : Hp} : ∀ {ρ : En} {σ : St} {fp : List Addr}, OwS K G H ρ σ fp → ρ.length = σ.length
  | [], _, _, ⟨h, _⟩ => by rw [h]; rfl
  | none :: _, _, _, ⟨o, r, h1, h2⟩ => by subst h1; rw [List.length_cons, List.length_cons, OwS.len h2]
  | some _ :: _, _, _, ⟨v, r, f1, f2, h1, h2, h3, h4⟩ => by subst h1; rw [List.length_cons, List.length_cons, OwS.len h4]
structure RSf (K : PySem.W.Frag) (G0 H0 G H : Hp) (ρ : En) (σ : St) (fp : List Addr) : Prop where
  st : Step G0 H0 G H
  own : OwS K G H ρ σ fp
  g : ∀ a ∈ fp, G a = none
  n : ∀ a ∈ fp, H0 a = none
  d : fp.Nodup
def RS (K : PySem.W.Frag) (G0 H0 G H : Hp) (ρ : En) (σ : St) : Prop := ∃ fp, RSf K G0 H0 G H ρ σ fp
theorem get_set_none {α : Type} {ρ : List (Option α)} {j : Nat} (h : j < ρ.length) : (ρ.set j none)[j]? = some none := by rw [List.getElem?_set]; simp [h]
theorem RSf.forget {K : PySem.W.Frag} {G0 H0 G H : Hp} {ρ : En} {σ : St} {fp : List Addr} (r : RSf K G0 H0 G H ρ σ fp) (j : Nat) : ∃ fr, RSf K G0 H0 G H (ρ.set j none) σ fr ∧ fr.Sublist fp := by
  obtain ⟨fr, q1, q2⟩ := r.own.forget j
  exact ⟨fr, ⟨r.st, q1, fun a ha => r.g a (q2.subset ha), fun a ha => r.n a (q2.subset ha), r.d.sublist q2⟩, q2⟩
theorem RS.forget {K : PySem.W.Frag} {G0 H0 G H : Hp} {ρ : En} {σ : St} (r : RS K G0 H0 G H ρ σ) (j : Nat) : RS K G0 H0 G H (ρ.set j none) σ := by
  obtain ⟨fp, r⟩ := r
  obtain ⟨fr, q, _⟩ := r.forget j
  exact ⟨fr, q⟩
theorem RSf.set {K : PySem.W.Frag} {G0 H0 G H G1 H1 : Hp} {ρ : En} {σ : St} {fp fq : List Addr} {j : Nat} {t : Tr} {v : V} (r : RSf K G0 H0 G H ρ σ fp) (hj : j < ρ.length) (e : Step G H G1 H1) (o : Ow K G1 H1 t v fq) (w : Nw H G1 fq) :
    RS K G0 H0 G1 H1 (ρ.set j (some t)) (σ.set j (some v)) := by
  obtain ⟨fr, r1, sub⟩ := r.forget j
  have own1 := r1.own.mono e.g e.h
  obtain ⟨fp', q1, q2⟩ := own1.put (get_set_none hj) o
  rw [List.set_set] at q1
  have dis : ∀ a ∈ fq, ∀ b ∈ fr, a ≠ b := fun a ha b hb z => by
    subst z
    obtain ⟨u, hu⟩ := r1.own.there a hb
    rw [w.n a ha] at hu; cases hu
  refine ⟨fp', r.st.trans e, q1, fun a ha => ?_, fun a ha => ?_, q2.nodup_iff.mpr (List.nodup_append.mpr ⟨w.d, r1.d, dis⟩)⟩
  · rcases List.mem_append.mp (q2.mem_iff.mp ha) with z | z
    · exact w.g a z
    · cases q : G1 a with
      | none => rfl
      | some u =>
        obtain ⟨u', hu'⟩ := r1.own.there a z
        have := e.n a (r1.g a z) (by rw [q]; exact fun z => nomatch z)
        rw [hu'] at this; cases this
  · rcases List.mem_append.mp (q2.mem_iff.mp ha) with z | z
    · exact r.st.h.free (w.n a z)
    · exact r1.n a z
def less (H : Hp) (fp : List Addr) : Hp := fun a => if a ∈ fp then none else H a
theorem less_in {H : Hp} {fp : List Addr} {a : Addr} (h : a ∈ fp) : less H fp a = none := by unfold less; rw [if_pos h]
theorem less_out {H : Hp} {fp : List Addr} {a : Addr} (h : a ∉ fp) : less H fp a = H a := by unfold less; rw [if_neg h]
theorem less_sub {H : Hp} {fp : List Addr} : Same (less H fp) H := fun b o e => by
  by_cases q : b ∈ fp
  · rw [less_in q] at e; cases e
  · rw [less_out q] at e; exact e
theorem same_less {G H : Hp} {fp : List Addr} (s : Same G H) (h : ∀ a ∈ fp, G a = none) : Same G (less H fp) := fun b o e => by
  by_cases q : b ∈ fp
  · rw [h b q] at e; cases e
  · rw [less_out q]; exact s b o e
theorem RSf.rebase {K : PySem.W.Frag} {G0 H0 G H : Hp} {ρ : En} {σ : St} {fp : List Addr} (r : RSf K G0 H0 G H ρ σ fp) : RSf K G (less H fp) G H ρ σ fp :=
  ⟨⟨Same.refl _, less_sub, r.st.s, fun a h h' => absurd h h'⟩, r.own, r.g, fun a ha => less_in ha, r.d⟩
theorem RSf.base {K : PySem.W.Frag} {G0 H0 G H : Hp} {ρ : En} {σ : St} {fp : List Addr} (r : RSf K G0 H0 G H ρ σ fp) : Step G0 H0 G (less H fp) :=
  ⟨r.st.g, same_less r.st.h r.n, same_less r.st.s r.g, r.st.n⟩
theorem RS.under {K : PySem.W.Frag} {G0 H0 G1 H1 G H : Hp} {ρ : En} {σ : St} (e : Step G0 H0 G1 H1) (r : RS K G1 H1 G H ρ σ) : RS K G0 H0 G H ρ σ := by
  obtain ⟨fp, r⟩ := r
  exact ⟨fp, e.trans r.st, r.own, r.g, fun a ha => e.h.free (r.n a ha), r.d⟩
inductive Out where
  | nx (ρ : En)
  | rt (t : Tr)
def Post (K : PySem.W.Frag) (G0 H0 : Hp) (D : Ends) : Out → Prop
  | .nx ρ => ∀ σ G H, RS K G0 H0 G H ρ σ → D.nx σ H
  | .rt t => ∀ v G H fq, Step G0 H0 G H → Ow K G H t v fq → Nw H0 G fq → D.rt v H
theorem Post.under {K : PySem.W.Frag} {G0 H0 G1 H1 : Hp} {D : Ends} {o : Out} (e : Step G0 H0 G1 H1) (p : Post K G0 H0 D o) : Post K G1 H1 D o := by
  cases o with
  | nx ρ => exact fun σ G H r => p σ G H (r.under e)
  | rt t => exact fun v G H fq s o w => p v G H fq (e.trans s) o ⟨fun a ha => e.h.free (w.n a ha), w.g, w.d⟩
def Sm1 (K : PySem.W.Frag) (τ : TS) (ρ : En) (o : Out) : Prop := ∀ D σ G0 H0 G H, RS K G0 H0 G H ρ σ → Post K G0 H0 D o → τ D σ H
section
variable {ι : Type}
def Rn (F : Fam ι) (st : Stmt) (ρ : En) (o : Out) : Prop := ∃ τ : TS, (∀ i, PS (F.cx i) st τ) ∧ Sm1 F.K τ ρ o
def Rns (F : Fam ι) (sts : List Stmt) (ρ : En) (o : Out) : Prop := ∃ τ : TS, (∀ i, PSs (F.cx i) sts τ) ∧ Sm1 F.K τ ρ o
def EvS (F : Fam ι) (e : Expr) (ρ : En) (t : Tr) : Prop := ∃ τ : TE, (∀ i, PE (F.cx i) e τ) ∧ ∀ σ G H fp Q, Same G H → OwS F.K G H ρ σ fp → (∀ a ∈ fp, G a = none) → Kv F.K G H t Q → τ σ H Q
def EtS (F : Fam ι) (e : Expr) (ρ : En) (b : Bool) : Prop := ∃ τ : TT, (∀ i, PT (F.cx i) e τ) ∧ ∀ σ G H fp Q, Same G H → OwS F.K G H ρ σ fp → (∀ a ∈ fp, G a = none) → (∀ G' H', Step G H G' H' → Q b H') → τ σ H Q
variable {F : Fam ι} {e a b c : Expr} {es : List Expr} {ρ ρ1 : En} {t : Tr} {ts : List Tr} {pos : Pos} {o : Out} {st : Stmt} {sts A B : List Stmt}
theorem Ev.s (h : Ev F e ρ t) : EvS F e ρ t := let ⟨τ, x, y⟩ := h; ⟨τ, x, fun σ G H fp Q s r _ k => y σ G H Q s r.rpd k⟩
theorem Et.s {p : Bool} (h : Et F e ρ p) : EtS F e ρ p := let ⟨τ, x, y⟩ := h; ⟨τ, x, fun σ G H fp Q s r _ k => y σ G H Q s r.rpd k⟩
mutual
noncomputable def Cl : Tr → Prop
  | .fz (.fl _) => True
  | .fz _ => False
  | .ow ts => Cls' ts
  | .tp ts => Cls' ts
noncomputable def Cls' : List Tr → Prop
  | [] => True
  | t :: ts => Cl t ∧ Cls' ts
end
mutual
theorem Ow.cl {K : PySem.W.Frag} {G G' H : Hp} : ∀ {t : Tr} {v : V} {fp : List Addr}, Cl t → Ow K G H t v fp → Ow K G' H t v fp
  | .fz (.fl _), _, _, _, h => h
  | .fz (.lst _), _, _, c, _ => c.elim
  | .fz (.tup _), _, _, c, _ => c.elim
  | .ow _, _, _, c, ⟨b, vs, fq, h1, h2, h3, h4⟩ => ⟨b, vs, fq, h1, h2, OwL.cl c h3, h4⟩
  | .tp _, _, _, c, ⟨b, vs, fq, h1, h2, h3, h4⟩ => ⟨b, vs, fq, h1, h2, OwL.cl c h3, h4⟩
theorem OwL.cl {K : PySem.W.Frag} {G G' H : Hp} : ∀ {ts : List Tr} {vs : List V} {fp : List Addr}, Cls' ts → OwL K G H ts vs fp → OwL K G' H ts vs fp
  | [], _, _, _, h => h
  | _ :: _, _, _, ⟨c1, c2⟩, ⟨v, r, f1, f2, h1, h2, h3, h4⟩ => ⟨v, r, f1, f2, h1, h2, h3.cl c1, OwL.cl c2 h4⟩
end
theorem cl_ints : ∀ ns : List Int, Cls' (ns.map fun n => Tr.fz (di n))
  | [] => True.intro
  | _ :: ns => ⟨True.intro, cl_ints ns⟩
theorem Ev.pk (h : Ev F e (pk ρ) t) (c : Cl t) : EvS F e ρ t := by
  obtain ⟨τ, x, y⟩ := h
  refine ⟨τ, x, fun σ G H fp Q s r hg k => ?_⟩
  refine y σ (frzd G H fp) H Q (frzd_sub s) (r.pk (frzd_same hg) fun a ha => frzd_in ha) fun v G' H' fq st o w => ?_
  refine k v G H' fq ⟨Same.refl _, st.h, s.trans st.h, fun a h h' => absurd h h'⟩ (o.cl c) ⟨w.n, fun a ha => s.free (w.n a ha), w.d⟩
theorem Et.pk {p : Bool} (h : Et F e (pk ρ) p) : EtS F e ρ p := by
  obtain ⟨τ, x, y⟩ := h
  refine ⟨τ, x, fun σ G H fp Q s r hg k => ?_⟩
  refine y σ (frzd G H fp) H Q (frzd_sub s) (r.pk (frzd_same hg) fun a ha => frzd_in ha) fun G' H' st => ?_
  exact k G H' ⟨Same.refl _, st.h, s.trans st.h, fun a h h' => absurd h h'⟩
theorem rns_nil : Rns F [] ρ (.nx ρ) := ⟨tNext, fun _ => pss_nil, fun D σ G0 H0 G H r k => k σ G H r⟩
theorem rns_cons (h1 : Rn F st ρ (.nx ρ1)) (h2 : Rns F sts ρ1 o) : Rns F (st :: sts) ρ o := by
  obtain ⟨τ, x, y⟩ := h1
  obtain ⟨τ', x', y'⟩ := h2
  exact ⟨tSeq τ τ', fun i => pss_cons (x i) (x' i), fun D σ G0 H0 G H r k => y _ σ G0 H0 G H r fun σ1 G1 H1 r1 => y' D σ1 G0 H0 G1 H1 r1 k⟩
theorem rns_ret (h1 : Rn F st ρ (.rt t)) : Rns F (st :: sts) ρ (.rt t) := by
  obtain ⟨τ, x, y⟩ := h1
  exact ⟨tSeq τ tNever, fun i => pss_cons (x i) pss_never, fun D σ G0 H0 G H r k => y _ σ G0 H0 G H r k⟩
theorem rns_one (h1 : Rn F st ρ o) : Rns F [st] ρ o := by
  obtain ⟨τ, x, y⟩ := h1
  exact ⟨τ, fun i => pss_one (x i), y⟩
theorem rn_set (j : Nat) {x : Str} {pos' : Pos} (he : EvS F e ρ t) (hN : ∀ i, (F.cx i).N.Nodup) (hj : Nat.blt j ρ.length = true := by rfl) (hi : ∀ i, (F.cx i).N[j]? = some x := by intro _; rfl) (hx : ∀ i, Loc (F.cx i).env.scope x := by intro _; first | exact Or.inl rfl | exact Or.inr rfl)
    (hs : ∀ i, swapsWith e (some (.Name x pos')) pos.line (F.cx i).env = pure false := by intro _; rfl) (hf : ∀ i, (F.cx i).fn x = true ∨ (F.cx i).env.scope.names.lookup x = some .local := by intro _; first | exact .inl rfl | exact .inr rfl) :
    Rn F (.Assign [.Name x pos'] e pos) ρ (.nx (ρ.set j (some t))) := by
  obtain ⟨τ, y, z⟩ := he
  refine ⟨tAsg τ (gName j), fun i => ps_set (hN i) (hi i) (hx i) (y i) (hs i) (hf i), fun D σ G0 H0 G H r k => ?_⟩
  obtain ⟨fp, r⟩ := r
  exact z σ G H fp _ r.st.s r.own r.g fun v G1 H1 fq s1 o w => k _ G1 H1 (r.set (Nat.le_of_ble_eq_true hj) s1 o w)
theorem rn_ret (he : EvS F e ρ t) : Rn F (.Return (some e) pos) ρ (.rt t) := by
  obtain ⟨τ, y, z⟩ := he
  refine ⟨tRet τ, fun i => ps_ret (y i), fun D σ G0 H0 G H r k => ?_⟩
  obtain ⟨fp, r⟩ := r
  exact z σ G H fp _ r.st.s r.own r.g fun v G1 H1 fq s1 o w => k v G1 H1 fq (r.st.trans s1) o ⟨fun a ha => r.st.h.free (w.n a ha), w.g, w.d⟩
theorem rn_retO (j : Nat) {x : Str} {p' : Pos} (h : ρ[j]? = some (some t)) (hN : ∀ i, (F.cx i).N[j]? = some x := by intro _; rfl)
    (hv : ∀ i, Vis (F.cx i).env.scope x := by intro _; first | exact Or.inl rfl | exact Or.inr (Or.inl rfl) | exact Or.inr (Or.inr rfl)) (hd : (x == ("__debug__" : Str)) = false := by decide) (hc : (x == ("__classdict__" : Str)) = false := by decide) : Rn F (.Return (some (.Name x p')) pos) ρ (.rt t) := by
  refine ⟨tRet (tVar j), fun i => ps_ret (pe_var (hN i) (hv i) hd hc), fun D σ G0 H0 G H r k => ?_⟩
  obtain ⟨fp, r⟩ := r
  obtain ⟨v, f, fr, q1, q2, q3, q4⟩ := r.own.split h
  have sub : ∀ a ∈ f, a ∈ fp := fun a ha => q4.mem_iff.mpr (List.mem_append_left _ ha)
  exact ⟨v, q1, k v G H f r.st q2 ⟨fun a ha => r.n a (sub a ha), fun a ha => r.g a (sub a ha), (List.nodup_append.mp (q4.nodup_iff.mp r.d)).1⟩⟩
theorem rn_if {p : Bool} (hc : EtS F c ρ p) (h1 : p = true → Rns F A ρ o) (h2 : p = false → Rns F B ρ o) : Rn F (.If c A B pos) ρ o := by
  obtain ⟨τ, y, z⟩ := hc
  have key : ∀ {G0 H0 G H G1 H1 : Hp} {σ : St} {fp : List Addr}, RSf F.K G0 H0 G H ρ σ fp → Step G H G1 H1 → RS F.K G0 H0 G1 H1 ρ σ := fun {G0 H0 G H G1 H1 σ fp} r s1 => ⟨fp, r.st.trans s1, r.own.mono s1.g s1.h, r.own.off s1 r.g, r.n, r.d⟩
  cases p with
  | true =>
    obtain ⟨τ', x', y'⟩ := h1 rfl
    refine ⟨tIfS τ τ' tNever, fun i => ps_if (y i) (x' i) pss_never, fun D σ G0 H0 G H r k => ?_⟩
    obtain ⟨fp, r⟩ := r
    exact z σ G H fp _ r.st.s r.own r.g fun G1 H1 s1 => iteT (y' D σ G0 H0 G1 H1 (key r s1) k)
  | false =>
    obtain ⟨τ', x', y'⟩ := h2 rfl
    refine ⟨tIfS τ tNever τ', fun i => ps_if (y i) pss_never (x' i), fun D σ G0 H0 G H r k => ?_⟩
    obtain ⟨fp, r⟩ := r
    exact z σ G H fp _ r.st.s r.own r.g fun G1 H1 s1 => iteF (y' D σ G0 H0 G1 H1 (key r s1) k)
theorem set_self {α : Type} : ∀ {l : List α} {j : Nat} {v : α}, l[j]? = some v → l.set j v = l
  | _ :: _, 0, _, h => by cases h; rfl
  | _ :: _, j + 1, _, h => by rw [List.set_cons_succ, set_self (l := _) (j := j) h]
theorem rns_freeze (j : Nat) (hj : ρ[j]? = some (some t)) (h : Rns F sts (ρ.set j (some (.fz (er t)))) o) : Rns F sts ρ o := by
  obtain ⟨τ, x, y⟩ := h
  refine ⟨τ, x, fun D σ G0 H0 G H r k => ?_⟩
  obtain ⟨fp, r⟩ := r
  obtain ⟨v, f, fr, q1, q2, q3, q4⟩ := r.own.split hj
  have nd := List.nodup_append.mp (q4.nodup_iff.mp r.d)
  have sub : ∀ a ∈ f, a ∈ fp := fun a ha => q4.mem_iff.mpr (List.mem_append_left _ ha)
  have sub' : ∀ a ∈ fr, a ∈ fp := fun a ha => q4.mem_iff.mpr (List.mem_append_right _ ha)
  have sm : Same G (frzd G H f) := frzd_same fun a ha => r.g a (sub a ha)
  have lt : j < ρ.length := by
    rcases Nat.lt_or_ge j ρ.length with z | z
    · exact z
    · rw [List.getElem?_eq_none z] at hj; cases hj
  obtain ⟨fp', p1, p2⟩ := (q3.mono sm (Same.refl _)).put (f := []) (t := .fz (er t)) (get_set_none lt) ⟨rfl, q2.hv sm fun a ha => frzd_in ha⟩
  rw [List.set_set, set_self q1] at p1
  refine y D σ G0 H0 (frzd G H f) H ⟨fp', ⟨r.st.g.trans sm, r.st.h, frzd_sub r.st.s, fun a h h' => ?_⟩, p1, fun a ha => ?_, fun a ha => r.n a (sub' a (p2.mem_iff.mp ha)), p2.nodup_iff.mpr nd.2.1⟩ k
  · by_cases z : a ∈ f
    · exact r.n a (sub a z)
    · rw [frzd_out z] at h'; exact r.st.n a h h'
  · have z := p2.mem_iff.mp ha
    rw [frzd_out fun z' => nd.2.2 a z' a z rfl]
    exact r.g a (sub' a z)
theorem RSf.chg {K : PySem.W.Frag} {G0 H0 G H G1 H1 : Hp} {ρ : En} {σ : St} {fp : List Addr} {j : Nat} {t : Tr} (r : RSf K G0 H0 G H ρ σ fp) (hj : ρ[j]? = some (some t)) (s1 : Step G H G1 H1) :
    ∃ v f, σ[j]? = some (some v) ∧ Ow K G H t v f ∧ Ow K G1 H1 t v f ∧ f.Nodup ∧ (∀ a ∈ f, a ∈ fp) ∧ ∀ l o t' f', l ∈ f → Ow K G1 (upd H1 l o) t' v f' → f'.Nodup → (∀ a ∈ f', a ∈ f ∨ (H a = none ∧ G1 a = none)) → RS K G0 H0 G1 (upd H1 l o) (ρ.set j (some t')) σ := by
  obtain ⟨v, f, fr, q1, q2, q3, q4⟩ := r.own.split hj
  have nda := List.nodup_append.mp (q4.nodup_iff.mp r.d)
  have qfp : ∀ a ∈ f, a ∈ fp := fun a ha => q4.mem_iff.mpr (List.mem_append_left _ ha)
  have rfp : ∀ a ∈ fr, a ∈ fp := fun a ha => q4.mem_iff.mpr (List.mem_append_right _ ha)
  have lt : j < ρ.length := by
    rcases Nat.lt_or_ge j ρ.length with z | z
    · exact z
    · rw [List.getElem?_eq_none z] at hj; cases hj
  have lG : ∀ a ∈ fp, G1 a = none := fun a ha => by
    cases q : G1 a with
    | none => rfl
    | some u =>
      obtain ⟨u', hu'⟩ := r.own.there a ha
      have := s1.n a (r.g a ha) (by rw [q]; exact fun z => nomatch z)
      rw [hu'] at this; cases this
  refine ⟨v, f, q1, q2, q2.mono s1.g s1.h, nda.1, qfp, fun l o t' f' hl ow nw hw => ?_⟩
  have new : ∀ a, H a = none → a ∉ fp := fun a ha hb => by
    obtain ⟨u, hu⟩ := r.own.there a hb
    rw [ha] at hu; cases hu
  have q3' : OwS K G1 (upd H1 l o) (ρ.set j none) σ fr := (q3.mono s1.g s1.h).frame fun z => nda.2.2 l hl l z rfl
  obtain ⟨fp', p1', p2'⟩ := q3'.put (get_set_none lt) ow
  rw [List.set_set, set_self q1] at p1'
  have memf : ∀ a ∈ fp', a ∈ fp ∨ (H a = none ∧ G1 a = none) := fun a ha => by
    rcases List.mem_append.mp (p2'.mem_iff.mp ha) with z | z
    · exact (hw a z).imp (qfp a) id
    · exact .inl (rfp a z)
  refine ⟨fp', ⟨(r.st.trans s1).g, fun b u hb => ?_, fun b u hb => ?_, (r.st.trans s1).n⟩, p1', fun a ha => ?_, fun a ha => ?_, ?_⟩
  · have hb1 := (r.st.trans s1).h b u hb
    rw [upd_ne fun z => ?_]
    · exact hb1
    · subst z; rw [r.n _ (qfp _ hl)] at hb; cases hb
  · have hb1 := s1.s b u hb
    rw [upd_ne fun z => ?_]
    · exact hb1
    · subst z; rw [lG _ (qfp _ hl)] at hb; cases hb
  · exact (memf a ha).elim (lG a) fun z => z.2
  · exact (memf a ha).elim (r.n a) fun z => r.st.h.free z.1
  · refine p2'.nodup_iff.mpr (List.nodup_append.mpr ⟨nw, nda.2.1, fun a ha b hb z => ?_⟩)
    subst z
    rcases hw a ha with z | z
    · exact nda.2.2 a z a hb rfl
    · exact new a z.1 (rfp a hb)
theorem RSf.mut {K : PySem.W.Frag} {G0 H0 G H G1 H1 : Hp} {ρ : En} {σ : St} {fp : List Addr} {j : Nat} {us : List Tr} (r : RSf K G0 H0 G H ρ σ fp) (hj : ρ[j]? = some (some (.ow us))) (s1 : Step G H G1 H1) :
    ∃ l vs fq, σ[j]? = some (some (.ref l)) ∧ H l = some (.lst vs) ∧ H1 l = some (.lst vs) ∧ OwL K G1 H1 us vs fq ∧ fq.Nodup ∧ (∀ a ∈ fq, a ∈ fp) ∧ ∀ us' ws fw, OwL K G1 H1 us' ws fw → fw.Nodup → (∀ a ∈ fw, a ∈ fq ∨ (H a = none ∧ G1 a = none)) → RS K G0 H0 G1 (upd H1 l (.lst ws)) (ρ.set j (some (.ow us'))) σ := by
  obtain ⟨v, f, q1, q2, q3, nd, qfp, q⟩ := r.chg hj s1
  obtain ⟨l, vs, fq, rfl, hl, ol, rfl⟩ := q3
  obtain ⟨l', vs', fq', e1, hl', _, e2⟩ := q2
  cases e1
  have ev : vs' = vs := by
    have := s1.h _ _ hl'
    rw [hl] at this
    cases this; rfl
  subst ev
  have ndl := List.nodup_cons.mp nd
  refine ⟨l, vs', fq, q1, hl', hl, ol, ndl.2, fun a ha => qfp a (.tail _ ha), fun us' ws fw ow nw hw => ?_⟩
  have lfw : l ∉ fw := fun z => (hw l z).elim ndl.1 fun z => by rw [z.1] at hl'; cases hl'
  exact q l (.lst ws) (.ow us') (l :: fw) (.head _) ⟨l, ws, fw, rfl, upd_same, ow.frame lfw, rfl⟩ (List.nodup_cons.mpr ⟨lfw, nw⟩) fun a ha => (List.mem_cons.mp ha).elim (fun z => .inl (z ▸ .head _)) fun z => (hw a z).imp (fun z => .tail _ z) id
theorem rn_append (j : Nat) {x : Str} {us : List Tr} {p1 p2 p3 : Pos} (h : ρ[j]? = some (some (.ow us))) (he : EvS F e ρ t) (hz : us.length < sizeLine) (hN : ∀ i, (F.cx i).N[j]? = some x := by intro _; rfl)
    (hv : ∀ i, Vis (F.cx i).env.scope x := by intro _; first | exact Or.inl rfl | exact Or.inr (Or.inl rfl) | exact Or.inr (Or.inr rfl)) (hd : (x == ("__debug__" : Str)) = false := by decide) (hc : (x == ("__classdict__" : Str)) = false := by decide)
    (hbase : ∀ i, attributeBase (.Name x p1) "append" (F.cx i).env (eval (.Name x p1) (F.cx i).env) = eval (.Name x p1) (F.cx i).env := by intro _; rfl)
    (hfew : ∀ i, ((backTo p3 (starEach [e] (F.cx i).env)).all (fun x => !x.1) && (backToKw p3 (keywordEach [] (F.cx i).env)).all (fun x => x.1.isSome) && decide (([e] : List Expr).length + ([] : List Keyword).length + (if ([] : List Keyword).isEmpty then 0 else 1) < 30)) = true := by intro _; rfl)
    (hline : (p2.endLine == p3.line) = true := by rfl) (hs : ∀ i, starEach [e] (F.cx i).env = [(false, eval e (F.cx i).env)] := by intro _; rfl) (hsw : ∀ i, swapsWith (.Call (.Attribute (.Name x p1) "append" p2) [e] [] p3) none pos.line (F.cx i).env = pure false := by intro _; rfl) :
    Rn F (.Expr (.Call (.Attribute (.Name x p1) "append" p2) [e] [] p3) pos) ρ (.nx (ρ.set j (some (.ow (us ++ [t]))))) := by
  obtain ⟨τ, y, z⟩ := he
  refine ⟨tDrop (tBM F.K "list" rAppend (tVar j) (tCons τ tNil)), fun i => ps_expr (F.hK i ▸ pe_bm PySem.F.plainAttrs_list PySem.F.slot_list_append PySem.F.type_list_append mt_append (pe_var (hN i) (hv i) hd hc) (pa_cons (y i) pa_nil (hs i)) (hbase i) (hfew i) hline (hs i) rfl) (hsw i), fun D σ G0 H0 G H r k => ?_⟩
  obtain ⟨fp, r⟩ := r
  obtain ⟨l0, vs0, fq0, c1, c2, _⟩ := r.mut h (.refl r.st.s)
  refine ⟨_, c1, .inl ⟨rfl, _, SqL.of c2⟩, ?_⟩
  refine z σ G H fp _ r.st.s r.own r.g fun v1 G1 H1 f1 s1 o1 w1 => ?_
  obtain ⟨l, vs, fq, d1, d2, d3, d4, d5, d6, d7⟩ := r.mut h s1
  rw [c1] at d1
  cases d1
  refine ⟨l0, vs, v1, rfl, rfl, d3, by rw [← d4.length]; exact hz, k σ G1 _ (d7 (us ++ [t]) (vs ++ [v1]) (fq ++ (f1 ++ [])) (d4.append ⟨v1, [], f1, [], rfl, rfl, o1, rfl, rfl⟩) ?_ fun a ha => ?_)⟩
  · rw [List.append_nil]
    refine List.nodup_append.mpr ⟨d5, w1.d, fun a ha b hb e => ?_⟩
    subst e
    obtain ⟨u, hu⟩ := r.own.there a (d6 a ha)
    rw [w1.n a hb] at hu; cases hu
  · rw [List.append_nil] at ha
    exact (List.mem_append.mp ha).imp id fun z => ⟨w1.n a z, w1.g a z⟩
end
end L2
namespace L2
open PySem PySem.Spec PyProof.Rows
def ItD (K : PySem.W.Frag) (G : Hp) (J : It) (its : List Dv) : Prop := ∀ k G1 H1, Same G G1 → Same G1 H1 →
  (∀ d, its[k]? = some d → J.go k H1 ∧ ∀ x H3, J.yld k H1 x H3 → ∃ G3, Step G1 H1 G3 H3 ∧ Hv K G3 d x) ∧ (k = its.length → J.stop k H1)
def setAll {α : Type} : List Nat → List α → List (Option α) → List (Option α)
  | j :: js, v :: vs, σ => setAll js vs (σ.set j (some v))
  | _, _, σ => σ
def dropAll {α : Type} : List Nat → List (Option α) → List (Option α)
  | [], ρ => ρ
  | j :: js, ρ => dropAll js (ρ.set j none)
theorem RS.dropAll {K : PySem.W.Frag} {G0 H0 G H : Hp} : ∀ {ρ : En} {σ : St} (js : List Nat), RS K G0 H0 G H ρ σ → RS K G0 H0 G H (L2.dropAll js ρ) σ
  | _, _, [], r => r
  | _, _, j :: js, r => RS.dropAll js (r.forget j)
def Fg (ρ ρ' : En) : Prop := ∃ fs, L2.dropAll fs ρ = ρ'
theorem Fg.rs {K : PySem.W.Frag} {G0 H0 G H : Hp} {ρ ρ' : En} {σ : St} (f : Fg ρ ρ') (r : RS K G0 H0 G H ρ σ) : RS K G0 H0 G H ρ' σ := by
  obtain ⟨fs, rfl⟩ := f
  exact r.dropAll fs
theorem RS.setAll {K : PySem.W.Frag} {G0 H0 G H : Hp} : ∀ {js : List Nat} {ds : List Dv} {vs : List V} {ρ : En} {σ : St}, (∀ j ∈ js, j < ρ.length) → HvL K G ds vs → RS K G0 H0 G H ρ σ → RS K G0 H0 G H (L2.setAll js (ds.map .fz) ρ) (L2.setAll js vs σ)
  | [], _, _, _, _, _, _, r => r
  | _ :: _, [], _, _, _, _, h, r => by rw [show _ = [] from h]; exact r
  | j :: js, d :: ds, _, ρ, σ, hj, ⟨x, q, h1, h2, h3⟩, ⟨fp, r⟩ => by
    subst h1
    have r' : RS K G0 H0 G H (ρ.set j (some (.fz d))) (σ.set j (some x)) := r.set (t := .fz d) (v := x) (fq := []) (hj j (.head _)) (.refl r.st.s) ⟨rfl, h2⟩ .nil
    exact RS.setAll (js := js) (ds := ds) (fun i hi => by rw [List.length_set]; exact hj i (.tail _ hi)) h3 r'
theorem RpD.set {K : PySem.W.Frag} {G : Hp} {ρ : En} {σ : St} {j : Nat} {d : Dv} {v : V} (r : RpD K G ρ σ) (hj : j < σ.length) (h : Hv K G d v) : RpD K G (ρ.set j (some (.fz d))) (σ.set j (some v)) := fun i e hi => by
  by_cases q : i = j
  · subst q
    rw [List.getElem?_set_self (by
      rcases Nat.lt_or_ge i ρ.length with z | z
      · exact z
      · rw [List.getElem?_eq_none (by rw [List.length_set]; exact z)] at hi; cases hi)] at hi
    cases hi
    exact ⟨v, by rw [List.getElem?_set_self hj], h⟩
  · rw [List.getElem?_set_ne (Ne.symm q)] at hi
    obtain ⟨u, h1, h2⟩ := r i e hi
    exact ⟨u, by rw [List.getElem?_set_ne (Ne.symm q)]; exact h1, h2⟩
theorem setAll_len {α : Type} : ∀ (js : List Nat) (vs : List α) (σ : List (Option α)), (setAll js vs σ).length = σ.length
  | [], _, _ => rfl
  | _ :: _, [], _ => rfl
  | j :: js, v :: vs, σ => by
    show (setAll js vs (σ.set j (some v))).length = _
    rw [setAll_len js vs, List.length_set]
theorem RpD.setAll {K : PySem.W.Frag} {G : Hp} : ∀ {js : List Nat} {ds : List Dv} {vs : List V} {ρ : En} {σ : St}, (∀ j ∈ js, j < σ.length) → HvL K G ds vs → RpD K G ρ σ → RpD K G (L2.setAll js (ds.map .fz) ρ) (L2.setAll js vs σ)
  | [], _, _, _, _, _, _, r => r
  | _ :: _, [], _, _, _, _, h, r => by rw [show _ = [] from h]; exact r
  | j :: js, d :: ds, _, ρ, σ, hj, ⟨x, q, h1, h2, h3⟩, r => by
    subst h1
    exact RpD.setAll (js := js) (ds := ds) (ρ := ρ.set j (some (.fz d))) (fun i hi => by rw [List.length_set]; exact hj i (.tail _ hi)) h3 (r.set (hj j (.head _)) h2)
section
variable {ι : Type}
def EvI (F : Fam ι) (tg iter : Expr) (ρ : En) (its : List Dv) : Prop := ∃ wi : TI, (∀ i, PI (F.cx i) tg iter wi) ∧ ∀ σ G H (R : It → Hp → Prop), Same G H → RpD F.K G ρ σ → (∀ J G' H', Step G H G' H' → ItD F.K G' J its → R J H') → wi σ H R
def EvIS (F : Fam ι) (tg iter : Expr) (ρ : En) (its : List Dv) : Prop := ∃ wi : TI, (∀ i, PI (F.cx i) tg iter wi) ∧ ∀ σ G H fp (R : It → Hp → Prop), Same G H → OwS F.K G H ρ σ fp → (∀ a ∈ fp, G a = none) → (∀ J G' H', Step G H G' H' → ItD F.K G' J its → R J H') → wi σ H R
def EvG (F : Fam ι) (tg : Expr) (js : List Nat) (sp : Dv → Option (List Dv)) : Prop := ∃ g : TG, (∀ i, PG (F.cx i) tg g) ∧ ∀ d dd v σ G H Q, sp d = some dd → Same G H → Hv F.K G d v → (∀ vs, HvL F.K G dd vs → Q (setAll js vs σ) H) → g v σ H Q
def uS (F : Fam ι) (sts : List Stmt) : TS := fun D σ H => ∃ τ : TS, (∀ i, PSs (F.cx i) sts τ) ∧ τ D σ H
theorem uS_ok {F : Fam ι} {sts : List Stmt} (i : ι) : PSs (F.cx i) sts (uS F sts) := fun pins s σ H D I ⟨τ, h, q⟩ => h i pins s σ H D I q
def uT (F : Fam ι) (e : Expr) : TT := fun σ H Q => ∃ τ : TT, (∀ i, PT (F.cx i) e τ) ∧ τ σ H Q
theorem uT_ok {F : Fam ι} {e : Expr} (i : ι) : PT (F.cx i) e (uT F e) := fun pins s σ H D I ⟨τ, h, q⟩ => h i pins s σ H D I q
def uE (F : Fam ι) (e : Expr) : TE := fun σ H Q => ∃ τ : TE, (∀ i, PE (F.cx i) e τ) ∧ τ σ H Q
theorem uE_ok {F : Fam ι} {e : Expr} (i : ι) : PE (F.cx i) e (uE F e) := fun pins s σ H D I ⟨τ, h, q⟩ => h i pins s σ H D I q
variable {F : Fam ι} {e a b c tg iter elt : Expr} {es : List Expr} {ρ ρ1 : En} {t ta : Tr} {ts : List Tr} {pos : Pos} {o : Out} {body : List Stmt} {its : List Dv} {js : List Nat} {sp : Dv → Option (List Dv)}
theorem EvI.s (h : EvI F tg iter ρ its) : EvIS F tg iter ρ its := let ⟨w, x, y⟩ := h; ⟨w, x, fun σ G H fp R s r _ k => y σ G H R s r.rpd k⟩
theorem evg_nm (j : Nat) {x : Str} (hN : ∀ i, (F.cx i).N.Nodup) (hi : ∀ i, (F.cx i).N[j]? = some x := by intro _; rfl) (hx : ∀ i, Loc (F.cx i).env.scope x := by intro _; first | exact Or.inl rfl | exact Or.inr rfl)
    (hf : ∀ i, (F.cx i).fn x = true ∨ (F.cx i).env.scope.names.lookup x = some .local := by intro _; first | exact .inl rfl | exact .inr rfl) : EvG F (.Name x pos) [j] (fun d => some [d]) :=
  ⟨gName j, fun i => pg_name (hN i) (hi i) (hx i) (hf i), fun d dd v σ G H Q e s h k => by
    cases e
    exact k [v] ⟨v, [], rfl, h, rfl⟩⟩
def tupOf (n : Nat) : Dv → Option (List Dv)
  | .tup ds => if ds.length = n then some ds else none
  | _ => none
theorem evi_list {xs : List Dv} (ha : Ev F e ρ ta) (ea : er ta = .lst xs) : EvI F tg e ρ xs := by
  obtain ⟨τ, p, q⟩ := ha.use
  refine ⟨iList F.K τ, fun i => F.hK i ▸ pi_list (p i), fun σ G H R s r k => q σ G H _ s r fun x G1 H1 s1 hx => ?_⟩
  rw [ea] at hx
  obtain ⟨l, vs, rfl, h1, h2⟩ := hx
  refine ⟨l, rfl, ⟨vs, s1.s.seq h1⟩, k _ G1 H1 s1 fun j G2 H2 sg sh => ⟨fun d hd => ?_, fun hz => ⟨vs, (sg.trans sh).seq h1, by rw [← h2.length, hz]; exact Nat.le_refl _⟩⟩⟩
  obtain ⟨v, q1, q2⟩ := h2.get hd
  refine ⟨⟨vs, v, (sg.trans sh).seq h1, q1⟩, ?_⟩
  rintro x H3 ⟨rfl, hx⟩
  have := hx vs ((sg.trans sh).seq h1)
  rw [q1] at this
  cases this
  exact ⟨G2, .refl sh, q2.mono sg⟩
abbrev rngD (lo : Int) (n : Nat) : List Dv := (List.range n).map fun k => di (lo + (k : Nat))
theorem itd_rng {K : PySem.W.Frag} {G : Hp} (lo : Int) (n : Nat) : ItD K G (Itr lo n) (rngD lo n) := fun k G1 H1 sg sh => by
  refine ⟨fun d hd => ?_, fun hz => by show n ≤ k; rw [hz]; simp⟩
  rw [List.getElem?_map] at hd
  rcases Nat.lt_or_ge k n with hk | hk
  · rw [List.getElem?_range hk] at hd
    cases hd
    refine ⟨hk, ?_⟩
    rintro x H3 ⟨rfl, rfl⟩
    exact ⟨G1, .refl sh, rfl, rfl⟩
  · rw [List.getElem?_eq_none (by simpa using hk)] at hd; cases hd
theorem evi_range1 {n : Int} (hm : F.mg "range" = none) (ha : Ev F a ρ (ti n)) (hb : -(2 ^ 62) ≤ n ∧ n < 2 ^ 62) {p : Pos} (hg : ∀ i, Gl (F.cx i) "range" := by intro _; rfl) (hs : ∀ i, starEach [a] (F.cx i).env = [(false, eval a (F.cx i).env)] := by intro _; rfl) : EvI F tg (.Call (.Name "range" p) [a] [] pos) ρ (rngD 0 n.toNat) := by
  obtain ⟨τ, p, q⟩ := ha.use
  refine ⟨iRng1 (tCons τ tNil), fun i => pi_range1 (hg i) ((F.hm i).symm ▸ hm) (pa_cons (p i) pa_nil (hs i)) (hs i), fun σ G H R s r k => q σ G H _ s r fun x G1 H1 s1 hx => ?_⟩
  exact ⟨n, by rw [hvi hx], hb.1, hb.2, k _ G1 H1 s1 (itd_rng 0 n.toNat)⟩
theorem blts {js : List Nat} {n : Nat} (h : js.all (fun j => Nat.blt j n) = true) : ∀ j ∈ js, j < n := fun j hj => Nat.le_of_ble_eq_true (List.all_eq_true.mp h j hj)
theorem pOwn {i : ι} (hx : (F.cx i).xe = NoX) : PassesOwn (model (F.cx i).prog (F.cx i).w) (F.cx i).A (F.cx i).env (F.cx i).xe := by rw [hx]; exact PassesOwn.never
theorem rn_for_gen (hi : EvIS F tg iter ρ its) (hg : EvG F tg js sp) (inv : Nat → En) (m : Nat) (hm : m ≤ its.length) (h0 : inv 0 = ρ) (hlen : ∀ k, js.all (fun j => Nat.blt j (inv k).length) = true)
    (step : ∀ k d, k < m → its[k]? = some d → ∃ dd ρb, sp d = some dd ∧ Rns F body (setAll js (dd.map .fz) (inv k)) (.nx ρb) ∧ Fg ρb (inv (k + 1)))
    (fin : (m = its.length ∧ o = .nx (inv m)) ∨ ∃ d dd t, its[m]? = some d ∧ sp d = some dd ∧ Rns F body (setAll js (dd.map .fz) (inv m)) (.rt t) ∧ o = .rt t)
    (hx : ∀ i, (F.cx i).xe = NoX := by intro _; rfl) (hs : ∀ i x, foldedSetIterable iter (F.cx i).env x = pure x := by intro _ _; rfl) : Rn F (.For tg iter body [] pos) ρ o := by
  obtain ⟨wi, p, q⟩ := hi
  obtain ⟨g, pg, qg⟩ := hg
  subst h0
  refine ⟨tFor wi g (uS F body), fun i => ps_for (pOwn (hx i)) (F.calm i) (p i) (pg i) (uS_ok i) (hs i), fun D σ G0 H0 G H r k => ?_⟩
  obtain ⟨fp, r⟩ := r
  refine q σ G H fp _ r.st.s r.own r.g fun J G1 H1 s1 it => ?_
  have r1 : RSf F.K G0 H0 G1 H1 (inv 0) σ fp := ⟨r.st.trans s1, r.own.mono s1.g s1.h, r.own.off s1 r.g, r.n, r.d⟩
  have kb := k.under r1.base
  refine ⟨fun k m' σ' H' => m' = its.length - k ∧ k ≤ m ∧ ∃ G', RS F.K G1 (less H1 fp) G' H' (inv k) σ', ⟨_, rfl, Nat.zero_le _, G1, fp, r1.rebase⟩, ?_⟩
  rintro n m' σ' H' ⟨rfl, hn, G', r'⟩
  obtain ⟨fp', r'⟩ := r'
  obtain ⟨i1, i2⟩ := it n G' H' r'.st.g r'.st.s
  by_cases hlt : n < m
  · have hd : its[n]? = some its[n] := List.getElem?_eq_getElem (by omega)
    obtain ⟨j1, j2⟩ := i1 _ hd
    refine .inr ⟨j1, fun σ2 H2 => ∃ G2, RS F.K G1 (less H1 fp) G2 H2 (inv (n + 1)) σ2, fun σ2 H2 z => ⟨its.length - (n + 1), by omega, rfl, hlt, z⟩, fun x H3 y => ?_⟩
    obtain ⟨G3, s3, h3⟩ := j2 x H3 y
    obtain ⟨dd, ρb, e1, ⟨τ, pb, qb⟩, e2⟩ := step n _ hlt hd
    refine qg _ dd x σ' G3 H3 _ e1 s3.s h3 fun vs hvs => ⟨τ, pb, qb _ _ G1 (less H1 fp) G3 H3 (RS.setAll (blts (hlen n)) hvs ⟨fp', r'.st.trans s3, r'.own.mono s3.g s3.h, fun a ha => ?_, r'.n, r'.d⟩) fun σ4 G4 H4 r4 => ⟨G4, e2.rs r4⟩⟩
    cases q : G3 a with
    | none => rfl
    | some u =>
      obtain ⟨u', hu'⟩ := r'.own.there a ha
      have := s3.n a (r'.g a ha) (by rw [q]; exact fun z => nomatch z)
      rw [hu'] at this; cases this
  · have en : n = m := by omega
    subst en
    rcases fin with ⟨e, rfl⟩ | ⟨d, dd, t, hd, e1, ⟨τ, pb, qb⟩, rfl⟩
    · refine .inl ⟨i2 e, kb σ' G' H' ⟨fp', r'⟩⟩
    · obtain ⟨j1, j2⟩ := i1 d hd
      refine .inr ⟨j1, fun _ _ => False, fun _ _ z => z.elim, fun x H3 y => ?_⟩
      obtain ⟨G3, s3, h3⟩ := j2 x H3 y
      refine qg d dd x σ' G3 H3 _ e1 s3.s h3 fun vs hvs => ⟨τ, pb, qb _ _ G1 (less H1 fp) G3 H3 (RS.setAll (blts (hlen n)) hvs ⟨fp', r'.st.trans s3, r'.own.mono s3.g s3.h, fun a ha => ?_, r'.n, r'.d⟩) kb⟩
      cases q : G3 a with
      | none => rfl
      | some u =>
        obtain ⟨u', hu'⟩ := r'.own.there a ha
        have := s3.n a (r'.g a ha) (by rw [q]; exact fun z => nomatch z)
        rw [hu'] at this; cases this
theorem rn_for (hi : EvIS F tg iter ρ its) (hg : EvG F tg js sp) (inv : Nat → En) (h0 : inv 0 = ρ) (hlen : ∀ k, js.all (fun j => Nat.blt j (inv k).length) = true)
    (step : ∀ k d, its[k]? = some d → ∃ dd ρb, sp d = some dd ∧ Rns F body (setAll js (dd.map .fz) (inv k)) (.nx ρb) ∧ Fg ρb (inv (k + 1)))
    (hx : ∀ i, (F.cx i).xe = NoX := by intro _; rfl) (hs : ∀ i x, foldedSetIterable iter (F.cx i).env x = pure x := by intro _ _; rfl) : Rn F (.For tg iter body [] pos) ρ (.nx (inv its.length)) :=
  rn_for_gen hi hg inv its.length (Nat.le_refl _) h0 hlen (fun k d _ h => step k d h) (.inl ⟨rfl, rfl⟩) hx hs
theorem rns_look {sts : List Stmt} (hi : EvIS F tg iter ρ its) (hg : EvG F tg js sp) (hlen : js.all (fun j => Nat.blt j ρ.length) = true) (ok : Dv → Bool)
    (step : ∀ d ∈ its, ∃ dd, sp d = some dd ∧ (ok d = true → ∃ ρb, Rns F body (setAll js (dd.map .fz) ρ) (.nx ρb) ∧ Fg ρb ρ) ∧ (ok d = false → Rns F body (setAll js (dd.map .fz) ρ) (.rt t)))
    (good : its.all ok = true → Rns F sts ρ o) (bad : its.all ok = false → o = .rt t)
    (hx : ∀ i, (F.cx i).xe = NoX := by intro _; rfl) (hs : ∀ i x, foldedSetIterable iter (F.cx i).env x = pure x := by intro _ _; rfl) : Rns F (.For tg iter body [] pos :: sts) ρ o := by
  cases hall : its.all ok with
  | true =>
    refine rns_cons (rn_for hi hg (fun _ => ρ) rfl (fun _ => hlen) (fun k d h => ?_) hx hs) (good hall)
    obtain ⟨dd, e, s1, _⟩ := step d (List.mem_of_getElem? h)
    obtain ⟨ρb, q1, q2⟩ := s1 (List.all_eq_true.mp hall d (List.mem_of_getElem? h))
    exact ⟨dd, ρb, e, q1, q2⟩
  | false =>
    rw [bad hall]
    have : ∃ m d, m < its.length ∧ its[m]? = some d ∧ ok d = false ∧ ∀ k e, k < m → its[k]? = some e → ok e = true := by
      clear step good bad hi
      induction its with
      | nil => cases hall
      | cons x xs ih =>
        rw [List.all_cons] at hall
        cases hxx : ok x with
        | false => exact ⟨0, x, by simp, rfl, hxx, fun k e hk => absurd hk (Nat.not_lt_zero _)⟩
        | true =>
          rw [hxx, Bool.true_and] at hall
          obtain ⟨m, d, h1, h2, h3, h4⟩ := ih hall
          refine ⟨m + 1, d, by simpa using h1, h2, h3, fun k e hk he => ?_⟩
          cases k with
          | zero => cases he; exact hxx
          | succ k => exact h4 k e (by omega) he
    obtain ⟨m, d, h1, h2, h3, h4⟩ := this
    refine rns_ret (rn_for_gen hi hg (fun _ => ρ) m (Nat.le_of_lt h1) rfl (fun _ => hlen) (fun k e hk he => ?_) (.inr ?_) hx hs)
    · obtain ⟨dd, e', s1, _⟩ := step e (List.mem_of_getElem? he)
      obtain ⟨ρb, q1, q2⟩ := s1 (h4 k e hk he)
      exact ⟨dd, ρb, e', q1, q2⟩
    · obtain ⟨dd, e', _, s2⟩ := step d (List.mem_of_getElem? h2)
      exact ⟨d, dd, t, h2, e', s2 h3, rfl⟩
theorem rn_while (inv : Nat → En) (n : Nat) (h0 : inv 0 = ρ) (turn : ∀ k, k < n → EtS F c (inv k) true ∧ Rns F body (inv k) (.nx (inv (k + 1)))) (stop : EtS F c (inv n) false)
    (hx : ∀ i, (F.cx i).xe = NoX := by intro _; rfl) : Rn F (.While c body [] pos) ρ (.nx (inv n)) := by
  subst h0
  refine ⟨tWhile (uT F c) (uS F body), fun i => ps_while (pOwn (hx i)) (uT_ok i) (uS_ok i), fun D σ G0 H0 G H r k => ?_⟩
  refine ⟨fun m' σ' H' => ∃ j G', j ≤ n ∧ m' = n - j ∧ RS F.K G0 H0 G' H' (inv j) σ', ⟨_, 0, G, Nat.zero_le _, rfl, r⟩, ?_⟩
  rintro m' σ' H' ⟨j, G', hj, rfl, fp, r'⟩
  have key : ∀ {G1 H1 : Hp}, Step G' H' G1 H1 → RS F.K G0 H0 G1 H1 (inv j) σ' := fun {G1 H1} s1 => ⟨fp, r'.st.trans s1, r'.own.mono s1.g s1.h, r'.own.off s1 r'.g, r'.n, r'.d⟩
  by_cases hlt : j < n
  · obtain ⟨⟨τ, x, y⟩, ⟨τ', x', y'⟩⟩ := turn j hlt
    refine ⟨τ, x, y σ' G' H' fp _ r'.st.s r'.own r'.g fun G1 H1 s1 => iteT ⟨fun σ2 H2 => ∃ G2, RS F.K G0 H0 G2 H2 (inv (j + 1)) σ2, fun σ2 H2 ⟨G2, z⟩ => ⟨n - (j + 1), by omega, j + 1, G2, hlt, rfl, z⟩, τ', x', ?_⟩⟩
    exact y' _ σ' G0 H0 G1 H1 (key s1) fun σ4 G4 H4 r4 => ⟨G4, r4⟩
  · have e : j = n := by omega
    subst e
    obtain ⟨τ, x, y⟩ := stop
    exact ⟨τ, x, y σ' G' H' fp _ r'.st.s r'.own r'.g fun G1 H1 s1 => iteF (k σ' G1 H1 (key s1))⟩
theorem rn_while_by {α : Type} (S : α → En) (Pp : α → Prop) (p : α → Bool) (μ : α → Nat) (hc : ∀ a, Pp a → EtS F c (S a) (p a)) (hb : ∀ a, Pp a → p a = true → ∃ a', Pp a' ∧ μ a' < μ a ∧ Rns F body (S a) (.nx (S a'))) (a0 : α) (h0 : Pp a0)
    (hx : ∀ i, (F.cx i).xe = NoX := by intro _; rfl) : ∃ a', Pp a' ∧ p a' = false ∧ Rn F (.While c body [] pos) (S a0) (.nx (S a')) := by
  have : ∀ (m : Nat) (a : α), μ a ≤ m → Pp a → ∃ (n : Nat) (f : Nat → α), f 0 = a ∧ (∀ k, k < n → Pp (f k) ∧ p (f k) = true ∧ Rns F body (S (f k)) (.nx (S (f (k + 1))))) ∧ Pp (f n) ∧ p (f n) = false := by
    intro m
    induction m with
    | zero =>
      intro a hm ha
      cases hp : p a with
      | false => exact ⟨0, fun _ => a, rfl, fun k hk => absurd hk (Nat.not_lt_zero _), ha, hp⟩
      | true =>
        obtain ⟨a', _, h2, _⟩ := hb a ha hp
        omega
    | succ m ih =>
      intro a hm ha
      cases hp : p a with
      | false => exact ⟨0, fun _ => a, rfl, fun k hk => absurd hk (Nat.not_lt_zero _), ha, hp⟩
      | true =>
        obtain ⟨a', h1, h2, h3⟩ := hb a ha hp
        obtain ⟨n, f, f0, f1, f2, f3⟩ := ih a' (by omega) h1
        refine ⟨n + 1, fun k => match k with | 0 => a | k + 1 => f k, rfl, fun k hk => ?_, f2, f3⟩
        cases k with
        | zero => exact ⟨ha, hp, by show Rns F body (S a) (.nx (S (f 0))); rw [f0]; exact h3⟩
        | succ k => exact f1 k (by omega)
  obtain ⟨n, f, f0, f1, f2, f3⟩ := this (μ a0) a0 (Nat.le_refl _) h0
  refine ⟨f n, f2, f3, rn_while (fun k => S (f k)) n (by rw [f0]) (fun k hk => ?_) (by have := hc _ f2; rw [f3] at this; exact this) hx⟩
  obtain ⟨g1, g2, g3⟩ := f1 k hk
  exact ⟨by have := hc _ g1; rw [g2] at this; exact this, g3⟩
structure IxLc where
  C : Addr
  s : Shared
  H : Hp
  ex : List Addr
  pn : List (Addr × Obj)
def famLc (F : Fam ι) (own : List Str) (fr : List Nat) (sc : Scope) (cl : ι → List (Str × Addr)) : Fam (ι × IxLc) where
  cx i := cxLc (F.cx i.1) own fr sc (cl i.1) i.2.C i.2.s i.2.H i.2.ex i.2.pn
  P := F.P
  w := F.w
  K := F.K
  mg := F.mg
  base := F.base
  room := F.room
  hP i := F.hP i.1
  hw i := F.hw i.1
  hK i := F.hK i.1
  hm i := F.hm i.1
  hb i := F.hb i.1
  hr i := F.hr i.1
  calm i := F.calm i.1
def lcEn (own : List Str) (fr : List Nat) (ρ : En) : En := own.map (fun _ => none) ++ fr.map fun j => (ρ[j]?).join
theorem rpd_lc {K : PySem.W.Frag} {G : Hp} {own : List Str} {fr : List Nat} {ρ : En} {σ : St} (r : RpD K G ρ σ) : RpD K G (lcEn own fr ρ) (lcStart own fr σ) := fun i d h => by
  unfold lcEn at h
  unfold lcStart
  by_cases hi : i < own.length
  · rw [List.getElem?_append_left (by simpa using hi), List.getElem?_map] at h
    cases q : own[i]? with
    | none => rw [q] at h; cases h
    | some z => rw [q] at h; cases h
  · rw [List.getElem?_append_right (by simpa using hi), List.getElem?_map, List.length_map] at h
    rw [List.getElem?_append_right (by simpa using hi), List.getElem?_map, List.length_map]
    cases q : fr[i - own.length]? with
    | none => rw [q] at h; cases h
    | some j =>
      rw [q] at h
      have h' : (ρ[j]?).join = some (.fz d) := Option.some.inj h
      have hj : ρ[j]? = some (some (.fz d)) := by
        cases q2 : ρ[j]? with
        | none => rw [q2] at h'; cases h'
        | some o => rw [q2] at h'; exact congrArg some h'
      obtain ⟨v, h1, h2⟩ := r j d hj
      refine ⟨v, ?_, h2⟩
      show some ((σ[j]?).join) = _
      rw [h1]
      rfl
def El {κ : Type} (F : Fam κ) (ifs : List Expr) (ρ : En) (b : Bool) : Prop := ∃ tt : TT, (∀ i (pins : List (Addr × Obj)) (s1 : Shared) (σ1 : St) (H1 : Hp) (Q : Bool → Hp → Prop), Inv (F.cx i) pins σ1 H1 s1 → tt σ1 H1 Q →
      wpAny (model (F.cx i).prog (F.cx i).w) (F.cx i).A (lcTests ifs (F.cx i).env) (TP (F.cx i) pins σ1 Q) NoX s1) ∧ ∀ σ G H Q, Same G H → RpD F.K G ρ σ → (∀ G' H', Step G H G' H' → Q b H') → tt σ H Q
theorem el_nil : El F [] ρ true := ⟨tNoTest, fun i pins s1 σ1 H1 Q I h => lc_t0 pins s1 σ1 H1 Q I h, fun σ G H Q s r k => k G H (.refl s)⟩
theorem el_one {p : Bool} (h : Et F c ρ p) (hx : ∀ i, (F.cx i).xe = NoX := by intro _; rfl) : El F [c] ρ p := let ⟨τ, x, y⟩ := h; ⟨τ, fun i pins s1 σ1 H1 Q I h => lc_t1 (x i) (hx i) pins s1 σ1 H1 Q I h, y⟩
def uL {κ : Type} (F : Fam κ) (ifs : List Expr) : TT := fun σ H Q => ∃ tt : TT, (∀ i (pins : List (Addr × Obj)) (s1 : Shared) (σ1 : St) (H1 : Hp) (Q : Bool → Hp → Prop), Inv (F.cx i) pins σ1 H1 s1 → tt σ1 H1 Q →
      wpAny (model (F.cx i).prog (F.cx i).w) (F.cx i).A (lcTests ifs (F.cx i).env) (TP (F.cx i) pins σ1 Q) NoX s1) ∧ tt σ H Q
def LcV (F : Fam ι) (own : List Str) (fr : List Nat) (sc : Scope) (cl : ι → List (Str × Addr)) (elt tg iter : Expr) (ifs : List Expr) (τ : TE) : Prop := ∃ wi g tt te, τ = tLc wi g tt te own fr ∧ (∀ i, PI (F.cx i) tg iter wi) ∧ (∀ i, PG ((famLc F own fr sc cl).cx i) tg g) ∧
  (∀ i (pins : List (Addr × Obj)) (s1 : Shared) (σ1 : St) (H1 : Hp) (Q : Bool → Hp → Prop), Inv ((famLc F own fr sc cl).cx i) pins σ1 H1 s1 → tt σ1 H1 Q → wpAny (model ((famLc F own fr sc cl).cx i).prog ((famLc F own fr sc cl).cx i).w) ((famLc F own fr sc cl).cx i).A (lcTests ifs ((famLc F own fr sc cl).cx i).env) (TP ((famLc F own fr sc cl).cx i) pins σ1 Q) NoX s1) ∧
  ∀ i, PE ((famLc F own fr sc cl).cx i) elt te
def Elc (F : Fam ι) (own : List Str) (fr : List Nat) (sc : Scope) (cl : ι → List (Str × Addr)) (elt tg iter : Expr) (ifs : List Expr) (ρ : En) (t : Tr) : Prop := ∃ τ, LcV F own fr sc cl elt tg iter ifs τ ∧ ∀ σ G H Q, Same G H → RpD F.K G ρ σ → Kv F.K G H t Q → τ σ H Q
theorem elc {ifs : List Expr} {sc : Scope} {own : List Str} {fr : List Nat} {cl : ι → List (Str × Addr)} (hi : EvI F tg iter ρ its) (hg : EvG (famLc F own fr sc cl) tg js sp) (hjs : ∀ j ∈ js, j < own.length)
    (p : Nat → Bool) (f : Nat → Tr) (hz : its.length < sizeLine)
    (step : ∀ k d, its[k]? = some d → ∃ dd, sp d = some dd ∧ El (famLc F own fr sc cl) ifs (setAll js (dd.map .fz) (lcEn own fr ρ)) (p k) ∧ (p k = true → Ev (famLc F own fr sc cl) elt (setAll js (dd.map .fz) (lcEn own fr ρ)) (f k)))
    (hdrop : ∀ dd : List Dv, dropAll js (setAll js (dd.map .fz) (lcEn own fr ρ)) = lcEn own fr ρ) : Elc F own fr sc cl elt tg iter ifs ρ (.ow (((List.range its.length).filter p).map f)) := by
  obtain ⟨wi, pi, qi⟩ := hi
  obtain ⟨g, pg, qg⟩ := hg
  refine ⟨_, ⟨wi, g, uL (famLc F own fr sc cl) ifs, uE (famLc F own fr sc cl) elt, rfl, pi, pg, fun i pins s1 σ1 H1 Q I h => by
      obtain ⟨tt, h1, h2⟩ := h
      exact h1 i pins s1 σ1 H1 Q I h2, fun i => uE_ok i⟩, fun σ G H Q s r k => ?_⟩
  refine qi σ G H _ s r fun J G1 H1 s1 it acc hacc => ?_
  have k1 := k.step s1
  have rpDrop : ∀ {G' : Hp} {js' : List Nat} {ρ' : En} {σ' : St}, RpD F.K G' ρ' σ' → RpD F.K G' (dropAll js' ρ') σ' := by
    intro G' js'
    induction js' with
    | nil => intro ρ' σ' z; exact z
    | cons j js' ih =>
      intro ρ' σ' z
      refine ih (ρ' := ρ'.set j none) fun i d hd => ?_
      by_cases q : j = i
      · subst q
        rw [List.getElem?_set] at hd
        simp at hd
      · rw [List.getElem?_set_ne q] at hd
        exact z i d hd
  refine ⟨fun i m ys σ1 H2 => m = its.length - i ∧ i ≤ its.length ∧ σ1.length = own.length + fr.length ∧ H2 acc = some (.lst ys) ∧ ∃ G2 fq, Step G1 H1 G2 H2 ∧ OwL F.K G2 H2 (((List.range i).filter p).map f) ys fq ∧ Nw H1 G2 (acc :: fq) ∧ RpD F.K G2 (lcEn own fr ρ) σ1,
    ⟨_, rfl, Nat.zero_le _, by simp [lcStart], upd_same, G1, [], .newO s1.s hacc, ⟨rfl, rfl⟩, ⟨fun a ha => by rw [List.mem_singleton.mp ha]; exact hacc, fun a ha => by rw [List.mem_singleton.mp ha]; exact s1.s.free hacc, by simp⟩, (rpd_lc r).mono s1.g⟩, ?_⟩
  rintro i m ys σ1 H2 ⟨rfl, hi, hσ, ha2, G2, fq, s2, o2, w2, r2⟩
  have hlen : ys.length < sizeLine := by
    rw [← o2.length, List.length_map]
    have := List.length_filter_le p (List.range i)
    rw [List.length_range] at this
    omega
  refine ⟨ha2, hlen, ?_⟩
  obtain ⟨i1, i2⟩ := it i G2 H2 s2.g s2.s
  by_cases hlt : i < its.length
  · have hd : its[i]? = some its[i] := List.getElem?_eq_getElem hlt
    obtain ⟨j1, j2⟩ := i1 _ hd
    obtain ⟨dd, e1, el, ev⟩ := step i _ hd
    refine .inr ⟨j1, fun zs σ2 H3 => σ2.length = own.length + fr.length ∧ H3 acc = some (.lst zs) ∧ ∃ G3 fq, Step G1 H1 G3 H3 ∧ OwL F.K G3 H3 (((List.range (i + 1)).filter p).map f) zs fq ∧ Nw H1 G3 (acc :: fq) ∧ RpD F.K G3 (lcEn own fr ρ) σ2,
      fun zs σ2 H3 z => ⟨its.length - (i + 1), by omega, rfl, hlt, z⟩, fun x H3 y => ?_⟩
    obtain ⟨G3, s3, h3⟩ := j2 x H3 y
    refine qg _ dd x σ1 G3 H3 _ e1 s3.s h3 fun vs hvs => ?_
    have hjl : ∀ j ∈ js, j < σ1.length := fun j hj => by have := hjs j hj; omega
    have rr : RpD F.K G3 (setAll js (dd.map .fz) (lcEn own fr ρ)) (setAll js vs σ1) := RpD.setAll hjl hvs (r2.mono s3.g)
    have keepG : ∀ {Ga Ha Gb Hb : Hp} {fs : List Addr}, Step Ga Ha Gb Hb → (∀ a ∈ fs, Ga a = none) → (∀ a ∈ fs, ∃ o, Ha a = some o) → ∀ a ∈ fs, Gb a = none := fun {Ga Ha Gb Hb fs} st h1 h2 a ha => by
      cases q : Gb a with
      | none => rfl
      | some u =>
        obtain ⟨u', hu'⟩ := h2 a ha
        have := st.n a (h1 a ha) (by rw [q]; exact fun z => nomatch z)
        rw [hu'] at this; cases this
    have th2 : ∀ a ∈ acc :: fq, ∃ o, H2 a = some o := fun a ha => (List.mem_cons.mp ha).elim (fun z => ⟨_, z ▸ ha2⟩) (o2.there a)
    have er : (List.range (i + 1)).filter p = (List.range i).filter p ++ if p i = true then [i] else [] := by
      rw [List.range_succ, List.filter_append]
      congr 1
      simp only [List.filter_cons, List.filter_nil]
    obtain ⟨tt, pt, qt⟩ := el
    refine ⟨tt, pt, qt _ G3 H3 _ s3.s rr fun G5 H5 s5 => ?_⟩
    have s35 := s3.trans s5
    cases hp : p i with
    | false =>
      refine iteF ⟨by rw [setAll_len]; exact hσ, s35.h _ _ ha2, G5, fq, s2.trans s35, ?_, ⟨w2.n, keepG s35 w2.g th2, w2.d⟩, ?_⟩
      · rw [er, hp, if_neg (by decide), List.append_nil]
        exact o2.mono s35.g s35.h
      · have := rpDrop (js' := js) (rr.mono s5.g)
        rwa [hdrop dd] at this
    | true =>
      obtain ⟨te, pe, qe⟩ := ev hp
      refine iteT ⟨te, pe, qe _ G5 H5 _ s5.s (rr.mono s5.g) fun v G6 H6 f6 s6 o6 w6 => ?_⟩
      have s36 := s35.trans s6
      have ha6 := s36.h _ _ ha2
      have nf6 : ∀ a ∈ f6, a ∉ acc :: fq := fun a ha hb => by
        obtain ⟨u, hu⟩ := th2 a hb
        have := s35.h _ _ hu
        rw [w6.n a ha] at this; cases this
      have ndq := List.nodup_cons.mp w2.d
      have g6 := keepG s36 w2.g th2
      refine ⟨ha6, by rw [setAll_len]; exact hσ, upd_same, G6, fq ++ (f6 ++ []), ⟨(s2.trans s36).g, fun b u hb => ?_, fun b u hb => ?_, (s2.trans s36).n⟩, ?_, ⟨fun a ha => ?_, fun a ha => ?_, ?_⟩, ?_⟩
      · rw [upd_ne fun z => by subst z; rw [hacc] at hb; cases hb]
        exact (s2.trans s36).h b u hb
      · rw [upd_ne fun z => by subst z; rw [g6 _ (.head _)] at hb; cases hb]
        exact s6.s b u hb
      · rw [er, hp, if_pos rfl, List.map_append]
        refine OwL.append ((o2.mono s36.g s36.h).frame ndq.1) ⟨v, [], f6, [], rfl, rfl, o6.frame fun z => nf6 _ z (.head _), rfl, rfl⟩
      · rw [List.append_nil] at ha
        rcases List.mem_cons.mp ha with z | z
        · exact w2.n a (z ▸ .head _)
        · rcases List.mem_append.mp z with z | z
          · exact w2.n a (.tail _ z)
          · exact (s2.trans s35).h.free (w6.n a z)
      · rw [List.append_nil] at ha
        rcases List.mem_cons.mp ha with z | z
        · exact g6 a (z ▸ .head _)
        · rcases List.mem_append.mp z with z | z
          · exact g6 a (.tail _ z)
          · exact w6.g a z
      · rw [List.append_nil]
        refine List.nodup_cons.mpr ⟨fun z => ?_, List.nodup_append.mpr ⟨ndq.2, w6.d, fun a ha b hb z => ?_⟩⟩
        · rcases List.mem_append.mp z with z | z
          · exact ndq.1 z
          · exact nf6 _ z (.head _)
        · subst z; exact nf6 a hb (.tail _ ha)
      · have := rpDrop (js' := js) (rr.mono (s5.trans s6).g)
        rwa [hdrop dd] at this
  · have e : i = its.length := by omega
    subst e
    refine .inl ⟨i2 rfl, k1 (.ref acc) G2 H2 (acc :: fq) s2 ⟨acc, ys, fq, rfl, ha2, o2, rfl⟩ w2⟩
theorem ev_lc {ifs : List Expr} {sc : Scope} {own : List Str} {fr : List Nat} {cl : ι → List (Str × Addr)} (L : ∀ i, LcScope (F.cx i) sc (cl i) fr) (hi : EvI F tg iter ρ its) (hg : EvG (famLc F own fr sc cl) tg js sp) (hjs : ∀ j ∈ js, j < own.length)
    (p : Nat → Bool) (f : Nat → Tr) (hz : its.length < sizeLine)
    (step : ∀ k d, its[k]? = some d → ∃ dd, sp d = some dd ∧ El (famLc F own fr sc cl) ifs (setAll js (dd.map .fz) (lcEn own fr ρ)) (p k) ∧ (p k = true → Ev (famLc F own fr sc cl) elt (setAll js (dd.map .fz) (lcEn own fr ρ)) (f k)))
    (hdrop : ∀ dd : List Dv, dropAll js (setAll js (dd.map .fz) (lcEn own fr ρ)) = lcEn own fr ρ)
    (hs : ∀ i x, foldedSetIterable iter (F.cx i).env x = pure x := by intro _ _; rfl) :
    Ev F (.ListComp elt [⟨tg, iter, ifs, 0⟩] sc pos) ρ (.ow (((List.range its.length).filter p).map f)) := by
  obtain ⟨τ, ⟨wi, g, tt, te, rfl, h1, h2, h3, h4⟩, h5⟩ := elc (ifs := ifs) hi hg hjs p f hz step hdrop
  exact ⟨_, fun i => pe_lc (cl := cl i) (L i) (F.calm i) (h1 i) (fun C s H ex pn => h2 (i, ⟨C, s, H, ex, pn⟩)) (fun C s H ex pn => h3 (i, ⟨C, s, H, ex, pn⟩)) (fun C s H ex pn => h4 (i, ⟨C, s, H, ex, pn⟩)) (hs i), h5⟩
end
structure IxD (k : Nat) (qual : Str) (sc : Scope) (f : Addr) where
  cdv : Value
  A : Around
  outer : List Env
  s : Shared
  H : Hp
  E : XK
  hr : Room k (A.deeper (envOfC qual sc s.heap.objs.size f cdv))
def famD (P : Program) (w : World) (K : PySem.W.Frag) (mg : Str → Option Value) (base : Heap) (N : List Str) (qual : Str) (sc : Scope) (f : Addr) (k : Nat) : Fam (IxD k qual sc f) where
  cx i := (cxOf CX0 P w K mg base N qual sc f i.cdv i.A i.outer i.s i.H i.E).nox
  P := P
  w := w
  K := K
  mg := mg
  base := base
  room := k
  hP _ := rfl
  hw _ := rfl
  hK _ := rfl
  hm _ := rfl
  hb _ := rfl
  hr i := i.hr
  calm _ := rfl
def enD (N : List Str) (dd : List Dv) : En := dd.map (fun d => some (.fz d)) ++ List.replicate (N.length - dd.length) none
theorem ows_none {K : PySem.W.Frag} {G H : Hp} : ∀ n : Nat, OwS K G H (List.replicate n none) (List.replicate n none) []
  | 0 => ⟨rfl, rfl⟩
  | n + 1 => ⟨none, List.replicate n none, rfl, ows_none n⟩
theorem ows_start {K : PySem.W.Frag} {G H : Hp} {n : Nat} : ∀ {dd : List Dv} {vs : List V}, HvL K G dd vs → OwS K G H (dd.map (fun d => some (.fz d)) ++ List.replicate n none) (vs.map some ++ List.replicate n none) []
  | [], _, h => by rw [show _ = [] from h]; exact ows_none n
  | _ :: _, _, ⟨x, r, h1, h2, h3⟩ => by subst h1; exact ⟨x, _, [], [], rfl, rfl, ⟨rfl, h2⟩, ows_start h3⟩
theorem fn_ok {P : Program} {w : World} {K : PySem.W.Frag} {mg : Str → Option Value} {base : Heap} {x qual : Str} {st : Stmt} {dV : Value} {f : Addr} {fd : FuncData} {N ps : List Str} {k : Nat} {R : List Dv → Tr → Prop} (Fd : FunD K x qual st dV f fd) (S : FnScope N ps (defScope st))
    (hl : ∀ dd t, R dd t → dd.length = ps.length)
    (hb : ∀ dd t, R dd t → ∃ o, (o = .rt t ∨ (t = tn ∧ ∃ ρ', o = .nx ρ')) ∧ Rns (famD P w K mg base N qual (defScope st) f k) (defBody st) (enD N dd) o) : FnOk P w K mg base CX0 (k + 1) f fd ps (spT K R) := by
  refine Fd.ok S (fun vs H Q E ⟨G, dd, t, s, h1, h2, h3⟩ => by rw [← h1.length]; exact hl dd t h2) fun cdv A outer s H vs Q E hr h => ?_
  obtain ⟨G, dd, t, s', h1, h2, h3⟩ := h
  obtain ⟨o, ho, τ, x, y⟩ := hb dd t h2
  refine ⟨τ, x ⟨cdv, A, outer, s, H, E, hr⟩, y _ (start N vs) G H G H ⟨[], .refl s', ?_, fun _ z => (nomatch z), fun _ z => (nomatch z), .nil⟩ ?_⟩
  · unfold start enD
    rw [← h1.length]
    exact ows_start h1
  · rcases ho with rfl | ⟨rfl, ρ', rfl⟩
    · exact fun v G1 H1 fq s1 o1 w1 => h3 v G1 H1 fq s1 o1 w1
    · exact fun σ G1 H1 ⟨fp, r⟩ => h3 .non G1 H1 [] r.st ⟨rfl, rfl, rfl⟩ .nil
end L2
namespace L2
open PySem PySem.Spec PyProof.Rows
def Itz (K : PySem.W.Frag) (l1 l2 : Addr) (xs ys : List V) : It :=
  ⟨fun i H => SqL K H l1 xs ∧ SqL K H l2 ys ∧ i < min xs.length ys.length, fun i H x H' => ∃ T vx vy, H T = none ∧ xs[i]? = some vx ∧ ys[i]? = some vy ∧ x = .ref T ∧ H' = upd H T (.tup [vx, vy]), fun i H => SqL K H l1 xs ∧ SqL K H l2 ys ∧ i = min xs.length ys.length⟩
def Ite (K : PySem.W.Frag) (l : Addr) (xs : List V) : It :=
  ⟨fun i H => SqL K H l xs ∧ i < xs.length, fun i H x H' => ∃ T v, H T = none ∧ xs[i]? = some v ∧ x = .ref T ∧ H' = upd H T (.tup [.int (i : Nat), v]), fun i H => SqL K H l xs ∧ i = xs.length⟩
section
variable {X : Cx} {pins : List (Addr × Obj)} {σ : St} {H : Hp} {s : Shared}
theorem Inv.turnedL {t' : Nat} {fs : List Addr} {h' : Heap} (I : Inv X pins σ H s) (k : ∀ b o, b ∉ fs → s.heap.get? b = some o → h'.get? b = some o) (hf : ∀ b ∈ fs, FpOk X pins H b) : Inv X pins σ H { s with heap := h', toks := t' } := by
  have nit : ∀ b u, H b = some u → b ∉ fs := fun b u e z => by rw [(hf b z).1] at e; cases e
  refine I.step (g' := s.gens) (d' := s.drawn) (ch := fs) (fun b hb => ?_) (fun b o _ _ hc e _ => k b o hc e) (fun b o _ _ hc e _ => ⟨o.slots, k b o hc e⟩) (fun _ _ _ _ n => n)
    (fun b o hc e => ⟨o, k b o hc e⟩) (fun _ _ e => e) (fun _ _ _ e => e) (fun b ps e => ⟨#[], by rw [e]; simp⟩) (fun m hm => ?_) (fun b u e => ?_) I.bare
  · obtain ⟨f0, f1, f2, f3, f4, f5⟩ := hf b hb
    exact ⟨f3, f1, f4, f5⟩
  · obtain ⟨o, es, ep, ho, r⟩ := hm
    exact ⟨o, es, ep, k _ o (fun z => (hf _ z).2.1 rfl) ho, r⟩
  · refine (I.hok b u e).stay (fun c v hc q => k c v ?_ q) (fun _ q => q) fun _ _ q => q
    rcases hc with z | z
    · rw [z]; exact nit b u e
    · exact nit c _ z
theorem Inv.turnedT {t' : Nat} {fs : List Addr} {h' : Heap} {T : Addr} {vs : List V} (I : Inv X pins σ H s) (k : ∀ b o, b ∉ fs → s.heap.get? b = some o → h'.get? b = some o) (hf : ∀ b ∈ fs, FpOk X pins H b) (hT : s.heap.objs.size ≤ T)
    (new : ObjOk X.prog X.w (upd H T (.tup vs)) h' T (.tup vs)) : Inv X pins σ (upd H T (.tup vs)) { s with heap := h', toks := t' } := by
  have hn : H T = none := I.hok.fresh hT
  have nit : ∀ b u, H b = some u → b ∉ fs := fun b u e z => by rw [(hf b z).1] at e; cases e
  have ne : ∀ b o, s.heap.get? b = some o → b ≠ T := fun b o e z => by subst z; exact absurd (Nat.lt_of_lt_of_le (Heap.lt_size e) hT) (Nat.lt_irrefl _)
  refine I.step (g' := s.gens) (d' := s.drawn) (ch := fs) (fun b hb => ?_) (fun b o _ _ hc e _ => k b o hc e) (fun b o _ _ hc e _ => ⟨o.slots, k b o hc e⟩) (fun b o _ e n => by rw [upd_ne (ne b o e)]; exact n)
    (fun b o hc e => ⟨o, k b o hc e⟩) (fun _ _ e => by rw [upd_ne (ne_of_none e hn)]; exact e) (fun _ _ _ e => by rw [upd_ne (ne_of_none e hn)]; exact e) (fun b ps e => ⟨#[], by rw [upd_ne (ne_of_none e hn), e]; simp⟩) (fun m hm => ?_) (fun b u e => ?_) I.bare
  · obtain ⟨f0, f1, f2, f3, f4, f5⟩ := hf b hb
    exact ⟨f3, f1, f4, f5⟩
  · obtain ⟨o, es, ep, ho, r⟩ := hm
    exact ⟨o, es, ep, k _ o (fun z => (hf _ z).2.1 rfl) ho, r⟩
  · by_cases hb : b = T
    · subst hb; rw [upd_same] at e; cases e; exact new
    · rw [upd_ne hb] at e
      refine (I.hok b u e).stay (fun c v hc q => k c v ?_ q) (fun c q => by rw [upd_ne (ne_of_none q hn)]; exact q) fun c xs q => by rw [upd_ne (ne_of_none q hn)]; exact q
      rcases hc with z | z
      · rw [z]; exact nit b u e
      · exact nit c _ z
end
theorem turn_zip {P : Program} {w : World} {K : PySem.W.Frag} {elts : List Expr} {kk : Nat} {pos : Pos} {z TI TO i1 i2 l1 l2 : Addr} {xs ys : List V} (D : ZipApart z TI TO i1 i2 l1 l2) :
    Turn P w K (.Tuple elts kk pos) (Itz K l1 l2 xs ys) [z, TI, TO, i1, i2] z (fun i h => IsZip h z TI TO .none ∧ IsPair h TI (.ref i1) (.ref i2) ∧ (∃ a b, IsPair h TO a b) ∧ h.IsListIter i1 l1 i ∧ h.IsListIter i2 l2 i) where
  mem := by simp
  obj := by
    rintro i h ⟨h1, h2, ⟨a, c, h3⟩, ⟨o1, h4, _, h5⟩, ⟨o2, h6, _, h7⟩⟩ b hb
    simp only [List.mem_cons, List.not_mem_nil, or_false] at hb
    rcases hb with rfl | rfl | rfl | rfl | rfl
    · exact ⟨_, h1, fun v z => by cases z⟩
    · exact ⟨_, h2, fun v z => by cases z⟩
    · exact ⟨_, h3, fun v z => by cases z⟩
    · exact ⟨_, h4, fun v z => by rw [h5] at z; cases z⟩
    · exact ⟨_, h6, fun v z => by rw [h7] at z; cases z⟩
  keep := by
    rintro i h h' ⟨h1, h2, ⟨a, c, h3⟩, h4, h5⟩ k
    exact ⟨k _ (by simp) _ h1, k _ (by simp) _ h2, ⟨a, c, k _ (by simp) _ h3⟩, h4.at fun o e => k _ (by simp) o e, h5.at fun o e => k _ (by simp) o e⟩
  item := by
    intro X hP hw hK hc i pins s σ H E I hf st hg
    subst hP hw hK
    obtain ⟨hq1, hq2, hlt⟩ := hg
    obtain ⟨its1, rv1, p1, hz1⟩ := I.list hq1
    obtain ⟨its2, rv2, p2, hz2⟩ := I.list hq2
    have e1 := rv1.length
    have e2 := rv2.length
    have W := WalksT.zip2 (prog := X.prog) (w := X.w) (A := X.A) (I.ok.hd hc) z TI TO i1 i2 l1 l2 D its1.toArray its2.toArray
    refine W.item i s _ _ (by simp; omega) ⟨st.1, st.2.1, st.2.2.1, st.2.2.2.1, st.2.2.2.2, p1.isList, p2.isList⟩ fun T vals h' tk hPt hTn hTup hMid hk => ⟨.ref T, rfl, W.go elts kk pos i T _ _ _ hMid fun h'' st'' hk'' => ?_⟩
    obtain ⟨x, y, hx, hy, rfl⟩ := hPt
    have hx1 : xs[i]? = some (xs[i]'(by omega)) := List.getElem?_eq_getElem _
    have hy1 : ys[i]? = some (ys[i]'(by omega)) := List.getElem?_eq_getElem _
    obtain ⟨u, hu, ru⟩ := rv1.get hx1
    obtain ⟨u', hu', ru'⟩ := rv2.get hy1
    have ex : x = u := by
      have : its1[i]? = some x := by simpa using hx
      rw [hu] at this; exact (Option.some.inj this).symm
    have ey : y = u' := by
      have : its2[i]? = some y := by simpa using hy
      rw [hu'] at this; exact (Option.some.inj this).symm
    subst ex ey
    have sub : ∀ b ∈ [z, TO, i1, i2], b ∈ [z, TI, TO, i1, i2] := fun b hb => by
      simp only [List.mem_cons, List.not_mem_nil, or_false] at hb ⊢
      rcases hb with rfl | rfl | rfl | rfl <;> simp
    have hT2 : IsTup h'' T [x, y].toArray := hTup.at fun o e => hk'' T o (W.apart i T _ hMid) e
    refine ⟨.ref T, upd H T (.tup [xs[i]'(by omega), ys[i]'(by omega)]), I.turnedT (fs := [z, TO, i1, i2]) (fun b o hb e => hk'' b o hb (hk b o hb e)) (fun b hb => hf b (sub b hb)) hTn ⟨by show 2 ≤ sizeLine; decide, [x, y], .cons ru (.cons ru' .nil), hT2⟩, rfl,
      ⟨T, _, _, I.hok.fresh hTn, hx1, hy1, rfl, rfl⟩, ⟨st''.1, st''.2.1, st''.2.2.1, st''.2.2.2.1, st''.2.2.2.2.1⟩, fun b hb => ?_⟩
    obtain ⟨o, eo, _⟩ : ∃ o, s.heap.get? b = some o ∧ True := by
      obtain ⟨g1, g2, ⟨a, c, g3⟩, ⟨o1, g4, _⟩, ⟨o2, g6, _⟩⟩ := st
      simp only [List.mem_cons, List.not_mem_nil, or_false] at hb
      rcases hb with rfl | rfl | rfl | rfl | rfl
      · exact ⟨_, g1, trivial⟩
      · exact ⟨_, g2, trivial⟩
      · exact ⟨_, g3, trivial⟩
      · exact ⟨_, g4, trivial⟩
      · exact ⟨_, g6, trivial⟩
    rw [upd_ne (Nat.ne_of_lt (Nat.lt_of_lt_of_le (Heap.lt_size eo) hTn))]
    exact (hf b hb).1
  done := by
    intro X hP hw hK hc i pins s σ H E I hf st hg
    subst hP hw hK
    obtain ⟨hq1, hq2, rfl⟩ := hg
    obtain ⟨its1, rv1, p1, hz1⟩ := I.list hq1
    obtain ⟨its2, rv2, p2, hz2⟩ := I.list hq2
    have e1 := rv1.length
    have e2 := rv2.length
    have W := WalksT.zip2 (prog := X.prog) (w := X.w) (A := X.A) (I.ok.hd hc) z TI TO i1 i2 l1 l2 D its1.toArray its2.toArray
    have en : min its1.toArray.size its2.toArray.size = min xs.length ys.length := by simp only [List.size_toArray]; omega
    refine W.done s _ _ (by rw [en]; exact ⟨st.1, st.2.1, st.2.2.1, st.2.2.2.1, st.2.2.2.2, p1.isList, p2.isList⟩) fun h' tk hk => ⟨rfl, I.turnedL (fs := [z, TO, i1, i2]) hk fun b hb => hf b ?_⟩
    simp only [List.mem_cons, List.not_mem_nil, or_false] at hb ⊢
    rcases hb with rfl | rfl | rfl | rfl <;> simp
  self := fun A i s Q E st h => wpAny_pyIter_zip st.1 h
theorem turn_enum {P : Program} {w : World} {K : PySem.W.Frag} {elts : List Expr} {kk : Nat} {pos : Pos} {e it l : Addr} {xs : List V} (hei : e ≠ it) (hle : l ≠ e) (hli : l ≠ it) :
    Turn P w K (.Tuple elts kk pos) (Ite K l xs) [e, it] e (fun i h => (∃ old, IsEnum h e it i old) ∧ h.IsListIter it l i) where
  mem := by simp
  obj := by
    rintro i h ⟨⟨old, h1⟩, ⟨o1, h4, _, h5⟩⟩ b hb
    simp only [List.mem_cons, List.not_mem_nil, or_false] at hb
    rcases hb with rfl | rfl
    · exact ⟨_, h1, fun v z => by cases z⟩
    · exact ⟨_, h4, fun v z => by rw [h5] at z; cases z⟩
  keep := by
    rintro i h h' ⟨⟨old, h1⟩, h4⟩ k
    exact ⟨⟨old, k _ (by simp) _ h1⟩, h4.at fun o e => k _ (by simp) o e⟩
  item := by
    intro X hP hw hK hc i pins s σ H E I hf st hg
    subst hP hw hK
    obtain ⟨hq1, hlt⟩ := hg
    obtain ⟨its1, rv1, p1, hz1⟩ := I.list hq1
    have e1 := rv1.length
    have W := WalksT.enumerate (prog := X.prog) (w := X.w) (A := X.A) (I.ok.hd hc) e it l hei hle hli its1.toArray
    refine W.item i s _ _ (by simp; omega) ⟨st.1, st.2, p1.isList⟩ fun T vals h' tk hPt hTn hTup hMid hk => ⟨.ref T, rfl, W.go elts kk pos i T _ _ _ hMid fun h'' st'' hk'' => ?_⟩
    obtain ⟨t, x, hx, rfl⟩ := hPt
    have hx1 : xs[i]? = some (xs[i]'(by omega)) := List.getElem?_eq_getElem _
    obtain ⟨u, hu, ru⟩ := rv1.get hx1
    have ex : x = u := by
      have : its1[i]? = some x := by simpa using hx
      rw [hu] at this; exact (Option.some.inj this).symm
    subst ex
    have hT2 : IsTup h'' T [Value.int (i : Nat) t, x].toArray := hTup.at fun o e => hk'' T o (W.apart i T _ hMid) e
    refine ⟨.ref T, upd H T (.tup [.int (i : Nat), xs[i]'(by omega)]), I.turnedT (fs := [e, it]) (fun b o hb e => hk'' b o hb (hk b o hb e)) hf hTn ⟨by show 2 ≤ sizeLine; decide, [.int (i : Nat) t, x], .cons ⟨t, rfl⟩ (.cons ru .nil), hT2⟩, rfl,
      ⟨T, _, I.hok.fresh hTn, hx1, rfl, rfl⟩, ⟨st''.1, st''.2.1⟩, fun b hb => ?_⟩
    obtain ⟨o, eo, _⟩ : ∃ o, s.heap.get? b = some o ∧ True := by
      obtain ⟨⟨old, g1⟩, ⟨o1, g4, _⟩⟩ := st
      simp only [List.mem_cons, List.not_mem_nil, or_false] at hb
      rcases hb with rfl | rfl
      · exact ⟨_, g1, trivial⟩
      · exact ⟨_, g4, trivial⟩
    rw [upd_ne (Nat.ne_of_lt (Nat.lt_of_lt_of_le (Heap.lt_size eo) hTn))]
    exact (hf b hb).1
  done := by
    intro X hP hw hK hc i pins s σ H E I hf st hg
    subst hP hw hK
    obtain ⟨hq1, rfl⟩ := hg
    obtain ⟨its1, rv1, p1, hz1⟩ := I.list hq1
    have e1 := rv1.length
    have W := WalksT.enumerate (prog := X.prog) (w := X.w) (A := X.A) (I.ok.hd hc) e it l hei hle hli its1.toArray
    have en : its1.toArray.size = xs.length := by simp only [List.size_toArray]; omega
    exact W.done s _ _ (by rw [en]; exact ⟨st.1, st.2, p1.isList⟩) fun h' tk hk => ⟨rfl, I.turnedL (fs := [e, it]) hk hf⟩
  self := fun A i s Q E st h => by
    obtain ⟨⟨old, h1⟩, _⟩ := st
    exact wpAny_pyIter_enum h1 h
def iZip (K : PySem.W.Frag) (ta : TA) : TI := fun σ H R => ta σ H fun vs H1 => ∃ l1 l2 xs ys, vs = [.ref l1, .ref l2] ∧ SqL K H1 l1 xs ∧ SqL K H1 l2 ys ∧ R (Itz K l1 l2 xs ys) H1
def iEnu (K : PySem.W.Frag) (ta : TA) : TI := fun σ H R => ta σ H fun vs H1 => ∃ l xs, vs = [.ref l] ∧ SqL K H1 l xs ∧ R (Ite K l xs) H1
section
variable {X : Cx} {elts : List Expr} {kk : Nat} {tp : Pos}
theorem pi_zip {a b : Expr} {ta : TA} {p pos : Pos} (hg : Gl X "zip") (hm : X.mg "zip" = none) (ha : PA X [a, b] ta) (hs : starEach [a, b] X.env = [(false, eval a X.env), (false, eval b X.env)] := by rfl) (hs2 : starEach [b] X.env = [(false, eval b X.env)] := by rfl) :
    PI X (.Tuple elts kk tp) (.Call (.Name "zip" p) [a, b] [] pos) (iZip X.K ta) := by
  intro pins s σ H R I h
  refine Call_ (ld_blt I hg hm bt_zip (PyProof.Rows.callWith_type1 (thn (ha pos pins s σ H _ I h) fun us s1 ⟨vs, H1, I1, r1, q1⟩ => ?_) (by rw [hs, hs2]) (by rw [hs2]; rfl)))
  obtain ⟨l1, l2, xs, ys, rfl, hq1, hq2, q⟩ := q1
  obtain ⟨u1, u2, rfl, c1, c2⟩ := r1.two
  cases c1
  cases c2
  obtain ⟨its1, rv1, p1, hz1⟩ := I1.list hq1
  obtain ⟨its2, rv2, p2, hz2⟩ := I1.list hq2
  have lt1 : l1 < s1.heap.objs.size := by obtain ⟨o, n, e, _⟩ := p1; exact Heap.lt_size e
  have lt2 : l2 < s1.heap.objs.size := by obtain ⟨o, n, e, _⟩ := p2; exact Heap.lt_size e
  refine call_zip_2 p1.isList p2.isList fun h' hz hTI hTO hi1 hi2 hsz hk => wpAny_pyIter_zip hz ?_
  have I2 : Inv X pins σ H1 { s1 with heap := h' } := I1.kept (t' := s1.toks) hk
  refine ⟨s1.heap.objs.size + 4, [s1.heap.objs.size + 4, s1.heap.objs.size + 2, s1.heap.objs.size + 3, s1.heap.objs.size, s1.heap.objs.size + 1], _, _, H1, rfl, I2, turn_zip (PySem.W.ktu_apart _ _ _ lt1 lt2), ⟨hz, hTI, ⟨_, _, hTO⟩, hi1, hi2⟩, fun b hb => ?_, q⟩
  have hb' : s1.heap.objs.size ≤ b := by
    simp only [List.mem_cons, List.not_mem_nil, or_false] at hb
    rcases hb with rfl | rfl | rfl | rfl | rfl <;> omega
  obtain ⟨f0, f1, f2, f3, f4, f5⟩ := I1.fpOk (H' := H1) hb' (I1.hok.fresh hb')
  exact ⟨f0, f1, f2, f3, f4, f5⟩
theorem pi_enum {a : Expr} {ta : TA} {p pos : Pos} (hg : Gl X "enumerate") (hm : X.mg "enumerate" = none) (ha : PA X [a] ta) (hs : starEach [a] X.env = [(false, eval a X.env)] := by rfl) :
    PI X (.Tuple elts kk tp) (.Call (.Name "enumerate" p) [a] [] pos) (iEnu X.K ta) := by
  intro pins s σ H R I h
  refine Call_ (ld_blt I hg hm bt_enumerate (PyProof.Rows.callWith_type1 (thn (ha pos pins s σ H _ I h) fun us s1 ⟨vs, H1, I1, r1, q1⟩ => ?_) hs rfl))
  obtain ⟨l, xs, rfl, hq1, q⟩ := q1
  obtain ⟨u1, rfl, c1⟩ := r1.one
  cases c1
  obtain ⟨its1, rv1, p1, hz1⟩ := I1.list hq1
  have lt1 : l < s1.heap.objs.size := by obtain ⟨o, n, e, _⟩ := p1; exact Heap.lt_size e
  refine call_enumerate_list p1.isList fun h' hE hI hsz hk => wpAny_pyIter_enum hE ?_
  have I2 : Inv X pins σ H1 { s1 with heap := h' } := I1.kept (t' := s1.toks) hk
  refine ⟨s1.heap.objs.size + 1, [s1.heap.objs.size + 1, s1.heap.objs.size], _, _, H1, rfl, I2, turn_enum (Nat.succ_ne_self _) (PySem.W.ktu_ne 1 lt1) (Nat.ne_of_lt lt1), ⟨⟨_, hE⟩, hI⟩, fun b hb => ?_, q⟩
  have hb' : s1.heap.objs.size ≤ b := by
    simp only [List.mem_cons, List.not_mem_nil, or_false] at hb
    rcases hb with rfl | rfl <;> omega
  obtain ⟨f0, f1, f2, f3, f4, f5⟩ := I1.fpOk (H' := H1) hb' (I1.hok.fresh hb')
  exact ⟨f0, f1, f2, f3, f4, f5⟩
end
section
variable {ι : Type} {F : Fam ι} {a b tg : Expr} {ρ : En} {ta tb' : Tr} {elts : List Expr} {kk : Nat} {tp pos : Pos}
def zipD (xs ys : List Dv) : List Dv := List.zipWith (fun x y => .tup [x, y]) xs ys
def enuD (xs : List Dv) : List Dv := (List.range xs.length).zipWith (fun k x => .tup [di (k : Nat), x]) xs
theorem evi_zip {xs ys : List Dv} (hm : F.mg "zip" = none) (ha : Ev F a ρ ta) (hb : Ev F b ρ tb') (ea : er ta = .lst xs) (eb : er tb' = .lst ys) {p : Pos} (hg : ∀ i, Gl (F.cx i) "zip" := by intro _; rfl)
    (hs : ∀ i, starEach [a, b] (F.cx i).env = [(false, eval a (F.cx i).env), (false, eval b (F.cx i).env)] := by intro _; rfl) (hs2 : ∀ i, starEach [b] (F.cx i).env = [(false, eval b (F.cx i).env)] := by intro _; rfl) :
    EvI F (.Tuple elts kk tp) (.Call (.Name "zip" p) [a, b] [] pos) ρ (zipD xs ys) := by
  obtain ⟨τ, p, q⟩ := (eva_cons ha (eva_cons hb eva_nil hs2) (fun i => by rw [hs i, hs2 i])).use
  refine ⟨iZip F.K τ, fun i => F.hK i ▸ pi_zip (hg i) ((F.hm i).symm ▸ hm) (p i) (hs i) (hs2 i), fun σ G H R s r k => q σ G H _ s r fun vs G1 H1 s1 hx => ?_⟩
  obtain ⟨x, y, rfl, h1, h2⟩ := hvl2 hx
  rw [ea] at h1
  rw [eb] at h2
  obtain ⟨l1, us, rfl, g1, g2⟩ := h1
  obtain ⟨l2, ws, rfl, g3, g4⟩ := h2
  have e1 := g2.length
  have e2 := g4.length
  refine ⟨l1, l2, us, ws, rfl, s1.s.seq g1, s1.s.seq g3, k _ G1 H1 s1 fun j G2 H2 sg sh => ⟨fun d hd => ?_, fun hz => ?_⟩⟩
  · unfold zipD at hd
    rw [List.getElem?_zipWith] at hd
    cases qx : xs[j]? with
    | none => rw [qx] at hd; cases hd
    | some dx =>
      cases qy : ys[j]? with
      | none => rw [qx, qy] at hd; cases hd
      | some dy =>
        rw [qx, qy] at hd
        cases hd
        obtain ⟨vx, x1, x2⟩ := g2.get qx
        obtain ⟨vy, y1, y2⟩ := g4.get qy
        have lx : j < us.length := (List.getElem?_eq_some_iff.mp x1).1
        have ly : j < ws.length := (List.getElem?_eq_some_iff.mp y1).1
        refine ⟨⟨(sg.trans sh).seq g1, (sg.trans sh).seq g3, by omega⟩, ?_⟩
        rintro x H3 ⟨T, wx, wy, hT, z1, z2, rfl, rfl⟩
        rw [x1] at z1
        rw [y1] at z2
        cases z1
        cases z2
        refine ⟨_, .new sh hT, T, _, rfl, SqT.of upd_same, _, _, rfl, (x2.mono sg).mono (Same.new (sh.free hT)), _, _, rfl, (y2.mono sg).mono (Same.new (sh.free hT)), rfl⟩
  · refine ⟨(sg.trans sh).seq g1, (sg.trans sh).seq g3, ?_⟩
    rw [hz]
    unfold zipD
    rw [List.length_zipWith, e1, e2]
theorem evi_enum {xs : List Dv} (hm : F.mg "enumerate" = none) (ha : Ev F a ρ ta) (ea : er ta = .lst xs) {p : Pos} (hg : ∀ i, Gl (F.cx i) "enumerate" := by intro _; rfl)
    (hs : ∀ i, starEach [a] (F.cx i).env = [(false, eval a (F.cx i).env)] := by intro _; rfl) : EvI F (.Tuple elts kk tp) (.Call (.Name "enumerate" p) [a] [] pos) ρ (enuD xs) := by
  obtain ⟨τ, p, q⟩ := (eva_cons ha eva_nil hs).use
  refine ⟨iEnu F.K τ, fun i => F.hK i ▸ pi_enum (hg i) ((F.hm i).symm ▸ hm) (p i) (hs i), fun σ G H R s r k => q σ G H _ s r fun vs G1 H1 s1 hx => ?_⟩
  obtain ⟨x, rfl, h1⟩ := hvl1 hx
  rw [ea] at h1
  obtain ⟨l1, us, rfl, g1, g2⟩ := h1
  have e1 := g2.length
  refine ⟨l1, us, rfl, s1.s.seq g1, k _ G1 H1 s1 fun j G2 H2 sg sh => ⟨fun d hd => ?_, fun hz => ?_⟩⟩
  · unfold enuD at hd
    rw [List.getElem?_zipWith] at hd
    cases qx : xs[j]? with
    | none =>
      rw [qx] at hd
      cases q2 : (List.range xs.length)[j]? with
      | none => rw [q2] at hd; cases hd
      | some z => rw [q2] at hd; cases hd
    | some dx =>
      have lj : j < xs.length := (List.getElem?_eq_some_iff.mp qx).1
      rw [qx, List.getElem?_range lj] at hd
      cases hd
      obtain ⟨vx, x1, x2⟩ := g2.get qx
      refine ⟨⟨(sg.trans sh).seq g1, by omega⟩, ?_⟩
      rintro x H3 ⟨T, wx, hT, z1, rfl, rfl⟩
      rw [x1] at z1
      cases z1
      exact ⟨_, .new sh hT, T, _, rfl, SqT.of upd_same, _, _, rfl, ⟨rfl, rfl⟩, _, _, rfl, (x2.mono sg).mono (Same.new (sh.free hT)), rfl⟩
  · refine ⟨(sg.trans sh).seq g1, ?_⟩
    rw [hz]
    unfold enuD
    rw [List.length_zipWith, List.length_range, Nat.min_self, e1]
theorem tupOf_some {n : Nat} {ds dd : List Dv} (e : tupOf n (.tup ds) = some dd) : ds.length = n ∧ dd = ds := by
  have e' : (if ds.length = n then some ds else none) = some dd := e
  by_cases h : ds.length = n
  · rw [if_pos h] at e'; cases e'; exact ⟨h, rfl⟩
  · rw [if_neg h] at e'; cases e'
theorem evg_t2 (j1 j2 : Nat) {x y : Str} {px py : Pos} (hN : ∀ i, (F.cx i).N.Nodup) (h1 : ∀ i, (F.cx i).N[j1]? = some x := by intro _; rfl) (h2 : ∀ i, (F.cx i).N[j2]? = some y := by intro _; rfl)
    (hx : ∀ i, Loc (F.cx i).env.scope x := by intro _; first | exact Or.inl rfl | exact Or.inr rfl) (hy : ∀ i, Loc (F.cx i).env.scope y := by intro _; first | exact Or.inl rfl | exact Or.inr rfl)
    (fx : ∀ i, (F.cx i).fn x = true ∨ (F.cx i).env.scope.names.lookup x = some .local := by intro _; first | exact .inl rfl | exact .inr rfl) (fy : ∀ i, (F.cx i).fn y = true ∨ (F.cx i).env.scope.names.lookup y = some .local := by intro _; first | exact .inl rfl | exact .inr rfl) :
    EvG F (.Tuple [.Name x px, .Name y py] kk tp) [j1, j2] (tupOf 2) :=
  ⟨gTup F.K 2 (gCons (gName j1) (gCons (gName j2) gNil)), fun i => F.hK i ▸ pg_tup (F.calm i) (pgs_cons (pg_name (hN i) (h1 i) (hx i) (fx i)) (pgs_cons (pg_name (hN i) (h2 i) (hy i) (fy i)) pgs_nil)), fun d dd v σ G H Q e s h k => by
    cases d with
    | fl _ => cases e
    | lst _ => cases e
    | tup ds =>
      obtain ⟨hl, rfl⟩ := tupOf_some e
      obtain ⟨a, vs, rfl, q1, q2⟩ := h
      have hv : vs.length = 2 := by rw [← q2.length]; exact hl
      refine ⟨a, vs, rfl, s.tup q1, hv, ?_⟩
      match vs, hv with
      | [v1, v2], _ => exact ⟨v1, [v2], rfl, v2, [], rfl, rfl, k [v1, v2] q2⟩⟩
theorem rn_set2 {e : Expr} {t : Tr} {js : List Nat} {sp : Dv → Option (List Dv)} {dd : List Dv} (he : EvS F e ρ t) (hg : EvG F tg js sp) (hd : sp (er t) = some dd) (hj : js.all (fun j => Nat.blt j ρ.length) = true := by rfl)
    (hs : ∀ i, swapsWithSole [tg] e pos.line (F.cx i).env = pure false := by intro _; rfl) (hw : ∀ i, swappedStores [tg] e (F.cx i).env = pure none := by intro _; rfl)
    (h1 : ∀ i, (assignEach [tg] (F.cx i).env).map (·.2) = [assign tg (F.cx i).env] := by intro _; rfl) : Rn F (.Assign [tg] e pos) ρ (.nx (setAll js (dd.map .fz) ρ)) := by
  obtain ⟨τ, y, z⟩ := he
  obtain ⟨g, pg, qg⟩ := hg
  refine ⟨tAsg τ g, fun i => ps_asg (y i) (pg i) (hs i) (hw i) (h1 i), fun D σ G0 H0 G H r k => ?_⟩
  obtain ⟨fp, r⟩ := r
  refine z σ G H fp _ r.st.s r.own r.g fun v G1 H1 fq s1 o w => ?_
  refine qg (er t) dd v σ (frzd G1 H1 fq) H1 _ hd (frzd_sub s1.s) (o.hv (frzd_same w.g) fun a ha => frzd_in ha) fun vs hvs => k _ (frzd G1 H1 fq) H1 (RS.setAll (blts hj) hvs ⟨fp, r.st.trans (s1.frz w), r.own.mono (s1.frz w).g s1.h, fun a ha => ?_, r.n, r.d⟩)
  cases q : frzd G1 H1 fq a with
  | none => rfl
  | some u =>
    obtain ⟨u', hu'⟩ := r.own.there a ha
    have := (s1.frz w).n a (r.g a ha) (by rw [q]; exact fun z => nomatch z)
    rw [hu'] at this; cases this
theorem rn_par (j1 j2 : Nat) {x y : Str} {m n : Int} {px py pt : Pos} {kt k2 pt2} (ha : EvS F a ρ (ti m)) (hb : EvS F b ρ (ti n)) (hN : ∀ i, (F.cx i).N.Nodup) (hj1 : Nat.blt j1 ρ.length = true := by rfl) (hj2 : Nat.blt j2 ρ.length = true := by rfl) (hi : ∀ i, (F.cx i).N[j1]? = some x := by intro _; rfl) (hj : ∀ i, (F.cx i).N[j2]? = some y := by intro _; rfl) (hij : j1 ≠ j2 := by decide)
    (hx : ∀ i, (F.cx i).env.scope.names.lookup x = some .local := by intro _; rfl) (hy : ∀ i, (F.cx i).env.scope.names.lookup y = some .local := by intro _; rfl)
    (hw : ∀ i, swappedStores [.Tuple [.Name x px, .Name y py] kt pt] (.Tuple [a, b] k2 pt2) (F.cx i).env = pure (some [x, y]) := by intro _; rfl)
    (hs : ∀ i, swapsWithSole [.Tuple [.Name x px, .Name y py] kt pt] (.Tuple [a, b] k2 pt2) pos.line (F.cx i).env = pure false := by intro _; rfl)
    (st1 : ∀ i, starEach [a, b] (F.cx i).env = (false, eval a (F.cx i).env) :: starEach [b] (F.cx i).env := by intro _; rfl) (st2 : ∀ i, starEach [b] (F.cx i).env = (false, eval b (F.cx i).env) :: starEach [] (F.cx i).env := by intro _; rfl) :
    Rn F (.Assign [.Tuple [.Name x px, .Name y py] kt pt] (.Tuple [a, b] k2 pt2) pos) ρ (.nx ((ρ.set j1 (some (ti m))).set j2 (some (ti n)))) := by
  obtain ⟨τ, y1, z1⟩ := ha
  obtain ⟨τ', y2, z2⟩ := hb
  refine ⟨tPar j1 j2 (tCons τ (tCons τ' tNil)), fun i => ps_par (F.calm i) (hN i) (hi i) (hj i) hij (hx i) (hy i) (pa_cons (y1 i) (pa_cons (y2 i) pa_nil (st2 i)) (st1 i)) (hw i) (hs i), fun D σ G0 H0 G H r k => ?_⟩
  obtain ⟨fp, r⟩ := r
  have key : ∀ {G1 H1 : Hp}, Step G H G1 H1 → ∀ a ∈ fp, G1 a = none := fun {G1 H1} s1 a ha => by
    cases q : G1 a with
    | none => rfl
    | some u =>
      obtain ⟨u', hu'⟩ := r.own.there a ha
      have := s1.n a (r.g a ha) (by rw [q]; exact fun z => nomatch z)
      rw [hu'] at this; cases this
  refine z1 σ G H fp _ r.st.s r.own r.g fun v G1 H1 fq s1 o w => z2 σ G1 H1 fp _ s1.s (r.own.mono s1.g s1.h) (key s1) fun v' G2 H2 fq' s2 o' w' => ?_
  have e1 : v = .int m := hvi o.2
  have e2 : v' = .int n := hvi o'.2
  subst e1 e2
  refine ⟨_, _, rfl, ?_⟩
  have s12 := s1.trans s2
  obtain ⟨fp1, r1⟩ := (⟨r.st.trans s12, r.own.mono s12.g s12.h, key s12, r.n, r.d⟩ : RSf F.K G0 H0 G2 H2 ρ σ fp).set (t := ti m) (v := .int m) (Nat.le_of_ble_eq_true hj1) (.refl s12.s) ⟨rfl, rfl, rfl⟩ .nil
  exact k _ G2 H2 (r1.set (t := ti n) (v := .int n) (by rw [List.length_set]; exact Nat.le_of_ble_eq_true hj2) (.refl s12.s) ⟨rfl, rfl, rfl⟩ .nil)
end
end L2
namespace L2
open PySem PySem.Spec PyProof.Rows
theorem ps_lcset {X : Cx} {elt tg iter : Expr} {ifs : List Expr} {sc : Scope} {cl : List (Str × Addr)} {own : List Str} {fr : List Nat} {pos spos py : Pos} {wi : TI} {g : TG} {tt : TT} {te : TE} {y0 : Str} {j0 : Nat}
    (L : LcScope X sc cl fr) (hc : X.calm = true) (hi : PI X tg iter wi)
    (hg : ∀ C s H ex pn, PG (cxLc X own fr sc cl C s H ex pn) tg g)
    (ht : ∀ C s H ex pn (pins : List (Addr × Obj)) (s1 : Shared) (σ1 : St) (H1 : Hp) (Q : Bool → Hp → Prop), Inv (cxLc X own fr sc cl C s H ex pn) pins σ1 H1 s1 → tt σ1 H1 Q →
      wpAny (model X.prog X.w) X.A (lcTests ifs (compEnvC sc (cellsFrom (C + 1) sc.names cl) C X.env)) (TP (cxLc X own fr sc cl C s H ex pn) pins σ1 Q) NoX s1)
    (he : ∀ C s H ex pn, PE (cxLc X own fr sc cl C s H ex pn) elt te) (hN0 : X.N.Nodup) (hj0 : X.N[j0]? = some y0) (hx0 : Loc X.env.scope y0)
    (hsw : swapsWith (.ListComp elt [⟨tg, iter, ifs, 0⟩] sc pos) (some (.Name y0 py)) spos.line X.env = pure true) (hf0 : X.fn y0 = true ∨ X.env.scope.names.lookup y0 = some .local) (hs : ∀ x, foldedSetIterable iter X.env x = pure x := by intro _; rfl) :
    PS X (.Assign [.Name y0 py] (.ListComp elt [⟨tg, iter, ifs, 0⟩] sc pos) spos) (tAsg (tLc wi g tt te own fr) (gName j0)) := by
  intro pins s σ H D I h
  rw [exec_Assign_Name_used _ _ _ _ hsw]
  refine wpAny_bind (wpAny_standAt (wpAny_bind ?_))
  show wpAny _ X.A (do let _ ← comprehension (.ListComp elt [⟨tg, iter, ifs, 0⟩] sc pos) sc X.env _ (newList []) false (eval iter X.env) (some (assign (.Name y0 py) X.env))) _ _ s
  refine wpAny_bind (wpAny_mono (wpAny_comprehension_free (use := some (assign (.Name y0 py) X.env)) (Q := fun _ s' => SP X pins D .next s') rfl hs L.clos L.kind L.names (thn (hi pins s σ H _ I h) fun v s1 h1 => thn h1 fun itv s2 h2 => ?_)) (fun _ s' hq => wpAny_pure (wpAny_pure hq)) fun _ _ e => e)
  obtain ⟨it, fp, tn, J, H2, e, I2, T, st2, f2, h2⟩ := h2
  subst e
  refine wpAny_newObj_type ?_
  have I3 : Inv X pins σ (upd H2 s2.heap.objs.size (.lst [])) { s2 with heap := s2.heap.push { cls := .type "list", data := .seq ([] : List Value).toArray } } := I2.lnew (t' := s2.toks) .nil (Nat.zero_le _)
  have n2 : H2 s2.heap.objs.size = none := I2.fresh
  obtain ⟨W, ⟨m0, w0⟩, turn⟩ := h2 _ n2
  have lt2 : ∀ b ∈ fp, b < s2.heap.objs.size := fun b hb => by
    obtain ⟨o, eo, _⟩ := T.obj 0 _ st2 b hb
    exact Heap.lt_size eo
  have fp3 : ∀ b ∈ fp, FpOk X pins (upd H2 s2.heap.objs.size (.lst [])) b := fun b hb => ⟨by rw [upd_ne (Nat.ne_of_lt (lt2 b hb))]; exact (f2 b hb).1, (f2 b hb).2⟩
  generalize hs3 : ({ s2 with heap := s2.heap.push { cls := .type "list", data := .seq ([] : List Value).toArray } } : Shared) = s3 at I3
  have st3 : tn 0 s3.heap := by
    rw [← hs3]
    exact T.keep 0 _ _ st2 fun b hb o eo => Heap.get?_push_of_some _ eo
  have lt3 : ∀ b ∈ fp, b < s3.heap.objs.size := fun b hb => by
    obtain ⟨o, eo, _⟩ := T.obj 0 _ st3 b hb
    exact Heap.lt_size eo
  generalize hH3 : upd H2 s2.heap.objs.size (.lst []) = H3 at I3 fp3 w0
  generalize s2.heap.objs.size = acc at turn w0 hH3 ⊢
  refine newEnv_cells ?_
  have hns : (pushCells (s3.heap.push { cls := .type "dict", data := .dict #[] }) sc.names).Ns s3.heap.objs.size fun _ => none := (Heap.Ns.new s3.heap (.type "dict")).keeps (pushCells_keeps _ _)
  have kp : ∀ b o, s3.heap.get? b = some o → (pushCells (s3.heap.push { cls := .type "dict", data := .dict #[] }) sc.names).get? b = some o := fun b o eo => pushCells_keeps _ _ b o (Heap.get?_push_of_some _ eo)
  have ncl : ∀ y c, (cellsFrom (s3.heap.objs.size + 1) sc.names cl).lookup y = some c → cl.lookup y = some c ∨ (pushCells (s3.heap.push { cls := .type "dict", data := .dict #[] }) sc.names).IsCell c none := fun y c e =>
    cf_cell sc.names (s3.heap.push { cls := .type "dict", data := .dict #[] }) cl y c (by rw [Heap.size_push]; exact e)
  generalize hh4 : pushCells (s3.heap.push { cls := .type "dict", data := .dict #[] }) sc.names = h4 at hns kp ncl
  have I4 := lcInv (own := own) (tk := s3.toks) L I3 fp3 lt3 hns kp ncl
  have st4 : tn 0 h4 := T.keep 0 _ _ st3 fun b hb o eo => kp b o eo
  have stat : ∀ {H' : Hp}, (∀ b ∈ fp, H' b = none) → ∀ b ∈ fp, FpOk (cxLc X own fr sc cl s3.heap.objs.size s3 H3 fp (X.pn ++ pins)) [] H' b := fun {H'} hn b hb =>
    ⟨hn b hb, Nat.ne_of_lt (lt3 b hb), fun z => (List.mem_cons.mp (I3.stkSub b z)).elim (fp3 b hb).2.1 (fp3 b hb).2.2.1, .inl hb, fun y c e => (cf_lookup _ _ _ y c e).elim (fun q => (fp3 b hb).2.2.2.2.1 y c (L.sub y c q)) fun q => Nat.ne_of_gt (Nat.lt_of_lt_of_le (lt3 b hb) (Nat.le_of_succ_le q.1)), fun p hp => (fp3 b hb).2.2.2.2.2 p (by
      have z : p ∈ (X.pn ++ pins) ++ [] := hp
      simpa using z)⟩
  have loop : codeAny (model X.prog X.w) X.A (.compLoop (.ListComp elt [⟨tg, iter, ifs, 0⟩] sc pos) 0 (.ref it) (.ref acc) (compEnvC sc (cellsFrom (s3.heap.objs.size + 1) sc.names cl) s3.heap.objs.size X.env))
      (compPost (model X.prog X.w) X.A X.xe (some (assign (.Name y0 py) X.env)) (fun _ s' => SP X pins D .next s') (.ref acc) s3.heap.objs.size) { s3 with heap := h4, toks := s3.toks } := by
    refine lcLoop (fun n s' => ∃ i ys σ1 H1, Inv (cxLc X own fr sc cl s3.heap.objs.size s3 H3 fp (X.pn ++ pins)) [] σ1 H1 s' ∧ tn i s'.heap ∧ (∀ b ∈ fp, H1 b = none) ∧ W i n ys σ1 H1) ?_ m0 ⟨0, [], _, H3, I4, st4, fun b hb => (fp3 b hb).1, w0⟩
    rintro n s5 ⟨i, ys, σ5, H5, I5, st5, fr5, w5⟩
    obtain ⟨hacc, hlen, hh⟩ := turn i n ys σ5 H5 w5
    rcases hh with ⟨stop, qn⟩ | ⟨go, N, hN, step⟩
    · refine thn (T.done (cxLc X own fr sc cl s3.heap.objs.size s3 H3 fp (X.pn ++ pins)) rfl rfl rfl hc i [] s5 σ5 H5 NoX I5 (stat fr5) st5 stop) fun r s6 ⟨hr, I6⟩ => ?_
      subst hr
      obtain ⟨m6, ns6, _⟩ := id I6.loc
      have back : ∀ h7, Heap.SameBut s3.heap.objs.size s6.heap h7 → Inv X pins σ H5 { s6 with heap := h7 } := fun h7 sb7 => by
        have old : ∀ b o, s3.heap.get? b = some o → b ≠ s3.heap.objs.size := fun b o eo => Nat.ne_of_lt (Heap.lt_size eo)
        have u6 : Un (frs X.stack) fp H3 H5 s3.heap s6.heap := I6.base
        have u7 : Un (frs X.stack) fp H3 H5 s3.heap h7 :=
          ⟨fun b o eo nn hb hx => (sb7.2 b (old b o eo)).trans (u6.keep b o eo nn hb hx), fun b o eo nn hb hx => by
            obtain ⟨sl, q⟩ := u6.slot b o eo nn hb hx
            exact ⟨sl, (sb7.2 b (old b o eo)).trans q⟩, u6.free, fun b o eo hx => by
            obtain ⟨o', q⟩ := u6.there b o eo hx
            exact ⟨o', (sb7.2 b (old b o eo)).trans q⟩, u6.tups, u6.frzs, u6.tbls⟩
        have fC : H5 s3.heap.objs.size = none := I6.free
        have hok7 : HOk X.prog X.w H5 h7 := fun b ob eb => by
          refine (I6.hok b ob eb).stay (fun c w' hc' q => (sb7.2 c ?_).trans q) (fun _ q => q) fun _ _ q => q
          rintro rfl
          rcases hc' with z | z
          · rw [← z, fC] at eb; cases eb
          · rw [fC] at z; cases z
        exact I3.call' (s' := { s6 with heap := h7 }) I6.os u7 hok7 I6.bare fun b hb => ⟨(fp3 b hb).2.2.2.1, (fp3 b hb).2.1, (fp3 b hb).2.2.2.2.1, (fp3 b hb).2.2.2.2.2⟩
      have fC0 : H5 s3.heap.objs.size = none := I6.free
      show wpAny _ _ (assign (.Name y0 py) X.env (.ref acc)) _ X.xe s6
      refine wpAny_assign_Name (store_ok2 (v := .ref acc) (back s6.heap (Heap.SameBut.refl ..)) hN0 hj0 hx0 rfl (fun s7 I7 ⟨a, sb, ha⟩ => ?_) hf0)
      have aC : s3.heap.objs.size ≠ a := by
        rcases ha with rfl | ha
        · exact Nat.ne_of_gt I3.lt
        · obtain ⟨v0, q0⟩ := I3.cell y0 a ha
          exact Nat.ne_of_gt q0.lt
      refine ⟨m6, ns6.sameBut sb aC, fun h8 sb8 => ⟨_, H5, ?_, qn⟩⟩
      exact Inv.turnedL (t' := s7.toks) (fs := [s3.heap.objs.size]) I7 (fun b o hb e => (sb8.2 b (fun z => hb (by rw [z]; exact .head _))).trans e) (fun b hb => by
        rw [List.mem_singleton.mp hb]
        exact I3.fpOk (H' := H5) (Nat.le_refl _) fC0)
    · refine thn (T.item (cxLc X own fr sc cl s3.heap.objs.size s3 H3 fp (X.pn ++ pins)) rfl rfl rfl hc i [] s5 σ5 H5 NoX I5 (stat fr5) st5 go) fun r s6 ⟨u, hr, h6⟩ => ?_
      subst hr
      refine thn h6 fun _ s7 ⟨x, H7, I7, r7, y7, st7, fr7⟩ => ?_
      have I7' := I7.pinned (stat fr7) (T.obj _ _ st7)
      refine thn (hg _ _ _ _ _ _ s7 σ5 H7 x u _ I7' r7 (step x H7 y7)) fun _ s8 ⟨σ8, H8, I8, q8⟩ => ?_
      have again : ∀ {zs : List V} {σ9 : St} {H9 : Hp} {s9 : Shared}, Inv (cxLc X own fr sc cl s3.heap.objs.size s3 H3 fp (X.pn ++ pins)) ([] ++ pinsAt fp s7.heap) σ9 H9 s9 → N zs σ9 H9 →
          ∃ m, m < n ∧ ∃ i ys σ1 H1, Inv (cxLc X own fr sc cl s3.heap.objs.size s3 H3 fp (X.pn ++ pins)) [] σ1 H1 s9 ∧ tn i s9.heap ∧ (∀ b ∈ fp, H1 b = none) ∧ W i m ys σ1 H1 := fun {zs σ9 H9 s9} I9 n9 => by
        obtain ⟨m', hm, w9⟩ := hN zs σ9 H9 n9
        refine ⟨m', hm, i + 1, zs, σ9, H9, I9.unpinned, T.keep _ _ _ st7 fun b hb o e => (I9.pin (b, o) (List.mem_append_right _ (List.mem_append_right _ (mem_pinsAt hb e)))).1, fun b hb => ?_, w9⟩
        obtain ⟨o, e, d⟩ := T.obj _ _ st7 b hb
        exact (I9.pin (b, o) (List.mem_append_right _ (List.mem_append_right _ (mem_pinsAt hb e)))).2.1
      refine thn (ht _ _ _ _ _ _ s8 σ8 H8 _ I8 q8) fun ok s9 ⟨H9, I9, q9⟩ => ?_
      cases ok with
      | false => exact again I9 (by simpa using q9)
      | true =>
        refine thn (he _ _ _ _ _ _ s9 σ8 H9 _ I9 q9) fun z s10 ⟨y, H10, I10, r10, a10, q10⟩ => ?_
        refine thn (mt_append _ s10 σ8 H10 (.ref acc) [y] (.ref acc) [z] (fun _ H' => N (ys ++ [y]) σ8 H') I10 rfl (.cons r10 .nil) ⟨acc, ys, y, rfl, rfl, a10, hlen, q10⟩) fun _ s11 ⟨_, H11, I11, _, q11⟩ => again I11 q11
  rw [← hs3] at loop ⊢
  exact codeAny_compStart_list loop (noX (T.self _ 0 _ _ _ st4 (by rw [hs3]; rw [hs3] at loop; exact loop)))
section
variable {ι : Type} {F : Fam ι} {elt tg iter : Expr} {ifs : List Expr} {sc : Scope} {own : List Str} {fr : List Nat} {cl : ι → List (Str × Addr)} {ρ : En} {t : Tr} {pos spos py : Pos}
theorem ElcS (h : Elc F own fr sc cl elt tg iter ifs ρ t) : ∃ τ, LcV F own fr sc cl elt tg iter ifs τ ∧ ∀ σ G H fp Q, Same G H → OwS F.K G H ρ σ fp → (∀ a ∈ fp, G a = none) → Kv F.K G H t Q → τ σ H Q :=
  let ⟨τ, v, y⟩ := h; ⟨τ, v, fun σ G H fp Q s r _ k => y σ G H Q s r.rpd k⟩
theorem rn_lcG (j : Nat) {x : Str} (h : ∃ τ, LcV F own fr sc cl elt tg iter ifs τ ∧ ∀ σ G H fp Q, Same G H → OwS F.K G H ρ σ fp → (∀ a ∈ fp, G a = none) → Kv F.K G H t Q → τ σ H Q) (L : ∀ i, LcScope (F.cx i) sc (cl i) fr) (hN : ∀ i, (F.cx i).N.Nodup) (hj : Nat.blt j ρ.length = true := by rfl) (hi : ∀ i, (F.cx i).N[j]? = some x := by intro _; rfl)
    (hx : ∀ i, Loc (F.cx i).env.scope x := by intro _; first | exact Or.inl rfl | exact Or.inr rfl) (hsw : ∀ i, swapsWith (.ListComp elt [⟨tg, iter, ifs, 0⟩] sc pos) (some (.Name x py)) spos.line (F.cx i).env = pure true := by intro _; rfl)
    (hf : ∀ i, (F.cx i).fn x = true ∨ (F.cx i).env.scope.names.lookup x = some .local := by intro _; first | exact .inl rfl | exact .inr rfl) (hs : ∀ i x, foldedSetIterable iter (F.cx i).env x = pure x := by intro _ _; rfl) :
    Rn F (.Assign [.Name x py] (.ListComp elt [⟨tg, iter, ifs, 0⟩] sc pos) spos) ρ (.nx (ρ.set j (some t))) := by
  obtain ⟨τ, ⟨wi, g, tt, te, rfl, h1, h2, h3, h4⟩, z⟩ := h
  refine ⟨_, fun i => ps_lcset (cl := cl i) (L i) (F.calm i) (h1 i) (fun C s H ex pn => h2 (i, ⟨C, s, H, ex, pn⟩)) (fun C s H ex pn => h3 (i, ⟨C, s, H, ex, pn⟩)) (fun C s H ex pn => h4 (i, ⟨C, s, H, ex, pn⟩)) (hN i) (hi i) (hx i) (hsw i) (hf i) (hs i), fun D σ G0 H0 G H r k => ?_⟩
  obtain ⟨fp, r⟩ := r
  exact z σ G H fp _ r.st.s r.own r.g fun v G1 H1 fq s1 o w => k _ G1 H1 (r.set (Nat.le_of_ble_eq_true hj) s1 o w)
theorem Elc.as {d : Dv} (h : Elc F own fr sc cl elt tg iter ifs ρ t) (e : er t = d) : Elc F own fr sc cl elt tg iter ifs ρ (.fz d) := by
  obtain ⟨τ, v, q⟩ := h
  refine ⟨τ, v, fun σ G H Q s r k => q σ G H Q s r fun v G' H' fq st o w => ?_⟩
  exact k v (frzd G' H' fq) H' [] (st.frz w) ⟨rfl, e ▸ o.hv (frzd_same w.g) fun a ha => frzd_in ha⟩ .nil
theorem Elc.to {t' : Tr} (h : Elc F own fr sc cl elt tg iter ifs ρ t) (e : t = t') : Elc F own fr sc cl elt tg iter ifs ρ t' := e ▸ h
end
end L2
namespace L2
open PySem PySem.Spec PyProof.Rows
def rCount (K : PySem.W.Frag) : V → List V → Hp → VK → Prop := fun x vs H Q => ∃ l xs y, x = .ref l ∧ vs = [y] ∧ SqL K H l xs ∧ flatV y = true ∧ xs.all flatV = true ∧ Q (.int (xs.countP fun z => eqV z y)) H
theorem countP_eqU {x : V} : ∀ {xs : List V} {us : List Value}, Vals xs us → xs.all flatV = true → us.countP (eqU x) = xs.countP fun y => eqV y x
  | _, _, .nil, _ => rfl
  | y :: xs, u :: us, .cons r t, f => by
    rw [List.all_cons, Bool.and_eq_true] at f
    rw [List.countP_cons, List.countP_cons, countP_eqU t f.2, eqU_of r f.1]
section
variable {X : Cx}
theorem mt_count : MtM X "list.count" (rCount X.K) := by
  intro pins s σ H x vs v us Q I rx rv h
  obtain ⟨l, xs, y, rfl, rfl, hq, fy, fs, q⟩ := h
  cases rx
  obtain ⟨u, rfl, ru⟩ := rv.one
  obtain ⟨its, r, ⟨⟨cl, dd, da, sl⟩, n, e, c1, c2, d1⟩, z⟩ := I.list hq
  simp only at c1 d1
  subst c1 d1
  refine call_meets F.slot_list_count ⟨_, e, rfl⟩ F.entry_list_count (F.args_list_count_2 _ _) (SeqAt.list_countAt l its.toArray n dd sl u (eqU y)) ⟨e, fun w hw => mem_eqAt ru fy r fs w (by simpa using hw), ?_⟩
  refine ⟨.int _, H, I.tok _, ⟨_, rfl⟩, ?_⟩
  rw [show its.toArray.toList = its by simp, countP_eqU r fs]
  exact q
end
section
variable {ι : Type} {F : Fam ι} {e a b c : Expr} {es : List Expr} {ρ : En} {t ta tb' tc : Tr} {ts : List Tr} {pos : Pos}
theorem countP_ints (n : Int) : ∀ ns : List Int, (ns.map V.int).countP (fun z => eqV z (.int n)) = ns.count n
  | [] => rfl
  | m :: ms => by
    rw [List.map_cons, List.countP_cons, countP_ints n ms, List.count_cons]
    rfl
theorem ev_bm {nm : Str} {id : String} {r : V → List V → Hp → VK → Prop} {xs : List Dv} {o : Expr} {to : Tr} (slot : Slot "list" nm id) (hty : typeOf (.builtin id) = pure (.type "method_descriptor")) (hm : ∀ i, MtR (F.cx i) id r) (ho : Ev F o ρ to) (eo : er to = .lst xs) (ha : EvA F (e :: es) ρ ts)
    (h : ∀ G H x vs Q, Same G H → Hv F.K G (er to) x → HvL F.K G (ers ts) vs → Kv F.K G H t Q → r x vs H Q) {apos : Pos}
    (hbase : ∀ i, attributeBase o nm (F.cx i).env (eval o (F.cx i).env) = eval o (F.cx i).env := by intro _; rfl)
    (hfew : ∀ i, ((backTo pos (starEach (e :: es) (F.cx i).env)).all (fun x => !x.1) && (backToKw pos (keywordEach [] (F.cx i).env)).all (fun x => x.1.isSome) && decide ((e :: es).length + ([] : List Keyword).length + (if ([] : List Keyword).isEmpty then 0 else 1) < 30)) = true := by intro _; rfl)
    (hline : (apos.endLine == pos.line) = true := by rfl) (hs : ∀ i, starEach (e :: es) (F.cx i).env = (false, eval e (F.cx i).env) :: starEach es (F.cx i).env := by intro _; rfl) (hplain : ∀ i, (backTo pos (starEach es (F.cx i).env)).any (·.1) = false := by intro _; rfl) :
    Ev F (.Call (.Attribute o nm apos) (e :: es) [] pos) ρ t := by
  obtain ⟨τ, p, q⟩ := ho.use
  obtain ⟨τ', p', q'⟩ := ha.use
  refine ⟨tBM F.K "list" r τ τ', fun i => F.hK i ▸ pe_bm PySem.F.plainAttrs_list slot hty (hm i) (p i) (p' i) (hbase i) (hfew i) hline (hs i) (hplain i), fun σ G H Q s rr k => ?_⟩
  refine q σ G H _ s rr fun x G1 H1 s1 hx => ⟨?_, q' σ G1 H1 _ s1.s (rr.mono s1.g) fun vs G2 H2 s2 hv => h G2 H2 x vs Q s2.s (hx.mono s2.g) hv (k.step (s1.trans s2))⟩
  rw [eo] at hx
  obtain ⟨l, us, rfl, h1, h2⟩ := hx
  exact .inl ⟨rfl, _, s1.s.seq h1⟩
theorem ev_count {n : Int} {ns : List Int} {o : Expr} {to : Tr} (ho : Ev F o ρ to) (eo : er to = dis ns) (ha : Ev F e ρ (ti n)) {apos : Pos}
    (hbase : ∀ i, attributeBase o "count" (F.cx i).env (eval o (F.cx i).env) = eval o (F.cx i).env := by intro _; rfl)
    (hfew : ∀ i, ((backTo pos (starEach [e] (F.cx i).env)).all (fun x => !x.1) && (backToKw pos (keywordEach [] (F.cx i).env)).all (fun x => x.1.isSome) && decide (([e] : List Expr).length + ([] : List Keyword).length + (if ([] : List Keyword).isEmpty then 0 else 1) < 30)) = true := by intro _; rfl)
    (hline : (apos.endLine == pos.line) = true := by rfl) (hs : ∀ i, starEach [e] (F.cx i).env = [(false, eval e (F.cx i).env)] := by intro _; rfl) : Ev F (.Call (.Attribute o "count" apos) [e] [] pos) ρ (ti (ns.count n : Nat)) :=
  ev_bm (r := rCount F.K) PySem.F.slot_list_count PySem.F.type_list_count (fun i => F.hK i ▸ mt_count) ho eo (eva_cons ha eva_nil hs) (fun G H x vs Q s hx hv k => by
    rw [eo] at hx
    obtain ⟨l, us, rfl, h1, h2⟩ := hx
    have := hvl_ints h2
    subst this
    obtain ⟨y, rfl, hy⟩ := hvl1 hv
    refine ⟨l, _, y, rfl, rfl, s.seq h1, by rw [hvi hy]; rfl, flat_ints ns, ?_⟩
    rw [hvi hy, countP_ints]
    exact k.sc s rfl) hbase hfew hline hs (fun _ => rfl)
theorem hvl_bools {K : PySem.W.Frag} {G : Hp} : ∀ {bs : List Bool} {vs : List V}, HvL K G (bs.map db) vs → vs = bs.map V.bl
  | [], _, h => h
  | _ :: _, _, ⟨x, r, h1, h2, h3⟩ => by subst h1; rw [hvi h2, hvl_bools h3]; rfl
theorem ev_all {bs : List Bool} (hm : F.mg "all" = none) (ha : Ev F e ρ ta) (ea : er ta = .lst (bs.map db)) {p' : Pos} (hg : ∀ i, Gl (F.cx i) "all" := by intro _; rfl)
    (hs : ∀ i, starEach [e] (F.cx i).env = [(false, eval e (F.cx i).env)] := by intro _; rfl) : Ev F (.Call (.Name "all" p') [e] [] pos) ρ (tb (bs.all id)) :=
  ev_callB (r := rAll F.K) (fun i => F.hK i ▸ call_all (F.calm i)) hm bt_all (eva_cons ha eva_nil hs) (fun G H vs Q s hx k => by
    obtain ⟨x, rfl, hxx⟩ := hvl1 hx
    replace hx := hxx
    rw [ea] at hx
    obtain ⟨l, ys, rfl, h1, h2⟩ := hx
    have := hvl_bools h2
    subst this
    exact ⟨l, bs, rfl, s.seq h1, k.sc s rfl⟩) hg (by decide) (by decide) hs (fun _ => rfl)
theorem OwL.child {K : PySem.W.Frag} {G H : Hp} : ∀ {us : List Tr} {vs : List V} {fq : List Addr} {i : Nat} {ws : List Tr}, OwL K G H us vs fq → us[i]? = some (.ow ws) → fq.Nodup →
    ∃ l xs fw, vs[i]? = some (.ref l) ∧ l ∈ fq ∧ H l = some (.lst xs) ∧ OwL K G H ws xs fw ∧ (∀ a ∈ fw, a ∈ fq) ∧ fw.Nodup ∧ l ∉ fw ∧ ∀ ws' xs' fw', OwL K G H ws' xs' fw' → fw'.Nodup → (∀ a ∈ fw', a ∈ fw ∨ a ∉ fq) → l ∉ fw' →
      ∃ fq', OwL K G (upd H l (.lst xs')) (us.set i (.ow ws')) vs fq' ∧ fq'.Nodup ∧ ∀ a ∈ fq', a ∈ fq ∨ a ∈ fw'
  | u :: us, _, _, 0, ws, ⟨v, r, f1, f2, h1, h2, h3, h4⟩, hi, nd => by
    cases hi
    subst h1 h2
    obtain ⟨l, xs, fw, rfl, hl, ow, rfl⟩ := h3
    have nda := List.nodup_append.mp nd
    have ndl := List.nodup_cons.mp nda.1
    refine ⟨l, xs, fw, rfl, by simp, hl, ow, fun a ha => by simp [ha], ndl.2, ndl.1, fun ws' xs' fw' ow' nw hw hlw => ?_⟩
    refine ⟨(l :: fw') ++ f2, ⟨.ref l, r, l :: fw', f2, rfl, rfl, ⟨l, xs', fw', rfl, upd_same, ow'.frame hlw, rfl⟩, h4.frame fun z => nda.2.2 l (.head _) l z rfl⟩, ?_, fun a ha => ?_⟩
    · refine List.nodup_append.mpr ⟨List.nodup_cons.mpr ⟨hlw, nw⟩, nda.2.1, fun a ha b hb e => ?_⟩
      subst e
      rcases List.mem_cons.mp ha with z | z
      · exact nda.2.2 a (z ▸ .head _) a hb rfl
      · rcases hw a z with z' | z'
        · exact nda.2.2 a (.tail _ z') a hb rfl
        · exact z' (List.mem_append_right _ hb)
    · rcases List.mem_append.mp ha with z | z
      · rcases List.mem_cons.mp z with z | z
        · exact .inl (by simp [z])
        · exact .inr z
      · exact .inl (List.mem_append_right _ z)
  | u :: us, _, _, i + 1, ws, ⟨v, r, f1, f2, h1, h2, h3, h4⟩, hi, nd => by
    subst h1 h2
    have nda := List.nodup_append.mp nd
    obtain ⟨l, xs, fw, q1, q2, q3, q4, q5, q6, q7, q8⟩ := OwL.child (i := i) h4 hi nda.2.1
    refine ⟨l, xs, fw, q1, List.mem_append_right _ q2, q3, q4, fun a ha => List.mem_append_right _ (q5 a ha), q6, q7, fun ws' xs' fw' ow' nw hw hlw => ?_⟩
    obtain ⟨fq', c1, c2, c3⟩ := q8 ws' xs' fw' ow' nw (fun a ha => (hw a ha).imp id fun z z' => z (List.mem_append_right _ z')) hlw
    refine ⟨f1 ++ fq', ⟨v, r, f1, fq', rfl, rfl, h3.frame fun z => nda.2.2 l z l q2 rfl, c1⟩, List.nodup_append.mpr ⟨nda.1, c2, fun a ha b hb e => ?_⟩, fun a ha => ?_⟩
    · subst e
      rcases c3 a hb with z | z
      · exact nda.2.2 a ha a z rfl
      · rcases hw a z with z' | z'
        · exact nda.2.2 a ha a (q5 a z') rfl
        · exact z' (List.mem_append_left _ ha)
    · rcases List.mem_append.mp ha with z | z
      · exact .inl (List.mem_append_left _ z)
      · exact (c3 a z).imp (List.mem_append_right _) id
theorem map_range_get {α β : Type} (l : List α) (d : α) (f : α → β) : (List.range l.length).map (fun k => f ((l[k]?).getD d)) = l.map f := by
  refine List.ext_getElem? fun i => ?_
  rw [List.getElem?_map, List.getElem?_map]
  rcases Nat.lt_or_ge i l.length with h | h
  · rw [List.getElem?_range h, List.getElem?_eq_getElem h]
    show some (f ((l[i]?).getD d)) = _
    rw [List.getElem?_eq_getElem h]
    rfl
  · rw [List.getElem?_eq_none (by simpa using h), List.getElem?_eq_none h]
    rfl
theorem ers_fz : ∀ ds : List Dv, ers (ds.map .fz) = ds
  | [] => rfl
  | d :: ds => by show d :: ers (ds.map .fz) = _; rw [ers_fz ds]
theorem er_fzs (ds : List Dv) : er (.ow (ds.map .fz)) = .lst ds := by show Dv.lst _ = _; rw [ers_fz]
theorem Ev.to {t' : Tr} (h : Ev F e ρ t) (q : t = t') : Ev F e ρ t' := q ▸ h
theorem Et.to {p q : Bool} (h : Et F e ρ p) (z : p = q) : Et F e ρ q := z ▸ h
theorem EvS.to {t' : Tr} (h : EvS F e ρ t) (q : t = t') : EvS F e ρ t' := q ▸ h
theorem rn_ifT {A B : List Stmt} {o : Out} {p : Bool} (hc : EtS F c ρ p) (hp : p = true) (h1 : Rns F A ρ o) : Rn F (.If c A B pos) ρ o := rn_if hc (fun _ => h1) fun h => by rw [hp] at h; cases h
theorem rn_ifF {A B : List Stmt} {o : Out} {p : Bool} (hc : EtS F c ρ p) (hp : p = false) (h1 : Rns F B ρ o) : Rn F (.If c A B pos) ρ o := rn_if hc (fun h => by rw [hp] at h; cases h) fun _ => h1
theorem rn_skip {A : List Stmt} {p : Bool} (hc : EtS F c ρ p) (hp : p = false) : Rn F (.If c A [] pos) ρ (.nx ρ) := rn_ifF hc hp rns_nil
def rLaw (dd : List Dv) (t : Tr) : Prop := ∃ ns : List Int, ns.length ≤ 63 ∧ dd = [dis ns] ∧ t = tb true
def spLaw (K : PySem.W.Frag) : Sp := fun vs H Q _ => ∃ (a : Addr) (ns : List Int), vs = [.ref a] ∧ SqL K H a (ns.map V.int) ∧ ns.length ≤ 63 ∧ ∀ H', Q (.bl true) H'
theorem law_ok {P : Program} {w : World} {K : PySem.W.Frag} {mg : Str → Option Value} {base : Heap} {k : Nat} {f : Addr} {fd : FuncData} (F : FnOk P w K mg base CX0 k f fd ["_law_script"] (spT K rLaw)) : FnOk P w K mg base CX0 k f fd ["_law_script"] (spLaw K) :=
  F.imp fun vs H Q E ⟨a, ns, e, h1, h2, h3⟩ => ⟨H, [dis ns], tb true, Same.refl _, ⟨.ref a, [], e, ⟨a, _, rfl, h1, ints_hvl⟩, rfl⟩, ⟨ns, h2, rfl, rfl⟩, fun v G' H' fq st o w => by rw [hvi o.2]; exact h3 H'⟩
end
end L2
namespace Fra
def gc (a b : Int) : Int := (Int.gcd a b : Int)
theorem gc_pos {a b : Int} (h : b ≠ 0) : 0 < gc a b := by
  have : 0 < Int.gcd a b := Int.gcd_pos_of_ne_zero_right _ h
  unfold gc; omega
theorem gc_dvd_l (a b : Int) : gc a b ∣ a := Int.gcd_dvd_left ..
theorem gc_dvd_r (a b : Int) : gc a b ∣ b := Int.gcd_dvd_right ..
theorem gc_zero (a : Int) : gc a 0 = (a.natAbs : Int) := by unfold gc; rw [Int.gcd_zero_right]
theorem gc_step (a : Int) {b : Int} : gc b (a % b) = gc a b := by
  unfold gc
  congr 1
  apply Nat.dvd_antisymm
  · refine Int.dvd_gcd ?_ (Int.gcd_dvd_left ..)
    have h1 : (↑(Int.gcd b (a % b)) : Int) ∣ b := Int.gcd_dvd_left ..
    have h2 : (↑(Int.gcd b (a % b)) : Int) ∣ a % b := Int.gcd_dvd_right ..
    have := Int.dvd_add (Int.dvd_trans h1 (Int.dvd_mul_right b (a / b))) h2
    rwa [Int.mul_ediv_add_emod] at this
  · refine Int.dvd_gcd (Int.gcd_dvd_right ..) ?_
    have h1 : (↑(Int.gcd a b) : Int) ∣ a := Int.gcd_dvd_left ..
    have h2 : (↑(Int.gcd a b) : Int) ∣ b := Int.gcd_dvd_right ..
    rw [Int.emod_def]
    exact Int.dvd_sub h1 (Int.dvd_trans h2 (Int.dvd_mul_right b (a / b)))
theorem gc_abs (a b : Int) : gc (a.natAbs : Int) (b.natAbs : Int) = gc a b := by
  unfold gc; simp [Int.gcd]
theorem gc_le_r {a b : Int} (h : 0 < b) : gc a b ≤ b := Int.le_of_dvd h (gc_dvd_r a b)
def lT (t b : Int) : Int := (if b < 0 then -t else t) / gc t b
def lB (t b : Int) : Int := (b.natAbs : Int) / gc t b
theorem lT_pos {t b : Int} (h : 0 < b) : lT t b = t / gc t b := by unfold lT; rw [if_neg (by omega)]
theorem lB_pos {t b : Int} (h : 0 < b) : lB t b = b / gc t b := by unfold lB; rw [show (b.natAbs : Int) = b by omega]
theorem lT_mul (t b : Int) : lT t b * gc t b = if b < 0 then -t else t := by
  unfold lT
  refine Int.ediv_mul_cancel ?_
  split
  · exact Int.dvd_neg.mpr (gc_dvd_l t b)
  · exact gc_dvd_l t b
theorem lB_mul (t b : Int) : lB t b * gc t b = (b.natAbs : Int) := by
  unfold lB
  refine Int.ediv_mul_cancel ?_
  exact Int.dvd_natAbs.mpr (gc_dvd_r t b)
theorem lB_ge {t b : Int} (h : b ≠ 0) : 1 ≤ lB t b := by
  have h1 := lB_mul t b
  have h2 := gc_pos (a := t) h
  have h3 : 0 < lB t b := Int.pos_of_mul_pos_left (by rw [h1]; omega) h2
  omega
theorem lB_le {t b : Int} (h : b ≠ 0) : lB t b ≤ (b.natAbs : Int) := by
  unfold lB
  exact Int.ediv_le_self _ (by omega)
theorem lT_abs {t b : Int} (h : b ≠ 0) : (lT t b).natAbs ≤ t.natAbs := by
  have h1 := lT_mul t b
  have h2 := gc_pos (a := t) h
  have h3 : (lT t b * gc t b).natAbs = t.natAbs := by rw [h1]; split <;> omega
  rw [Int.natAbs_mul] at h3
  have h4 : 1 ≤ (gc t b).natAbs := by omega
  calc (lT t b).natAbs = (lT t b).natAbs * 1 := by omega
    _ ≤ (lT t b).natAbs * (gc t b).natAbs := Nat.mul_le_mul_left _ h4
    _ = t.natAbs := h3
theorem l_cross {t b : Int} (h : b ≠ 0) : lT t b * b = t * lB t b := by
  have h1 := lT_mul t b
  have h2 := lB_mul t b
  have h3 := gc_pos (a := t) h
  apply Int.eq_of_mul_eq_mul_right (a := gc t b) (by omega)
  by_cases hb : b < 0
  · rw [if_pos hb] at h1
    have h4 : lB t b * gc t b = -b := by omega
    grind
  · rw [if_neg hb] at h1
    have h4 : lB t b * gc t b = b := by omega
    grind
theorem l_coprime {t b : Int} (h : b ≠ 0) : Int.gcd (lT t b) (lB t b) = 1 := by
  have h1 := lT_mul t b
  have h2 := lB_mul t b
  have h3 := gc_pos (a := t) h
  have hd1 : ((Int.gcd (lT t b) (lB t b) : Int)) ∣ lT t b := Int.gcd_dvd_left ..
  have hd2 : ((Int.gcd (lT t b) (lB t b) : Int)) ∣ lB t b := Int.gcd_dvd_right ..
  have e1 : ((Int.gcd (lT t b) (lB t b) : Int)) * gc t b ∣ t := by
    have := Int.mul_dvd_mul hd1 (Int.dvd_refl (gc t b))
    rw [h1] at this
    split at this
    · exact Int.dvd_neg.mp this
    · exact this
  have e2 : ((Int.gcd (lT t b) (lB t b) : Int)) * gc t b ∣ b := by
    have := Int.mul_dvd_mul hd2 (Int.dvd_refl (gc t b))
    rw [h2] at this
    exact Int.dvd_natAbs.mp this
  have e3 : ((Int.gcd (lT t b) (lB t b) : Int)) * gc t b ∣ gc t b := Int.dvd_coe_gcd e1 e2
  have e4 := Int.le_of_dvd h3 e3
  have e5 : 0 < Int.gcd (lT t b) (lB t b) := Int.gcd_pos_of_ne_zero_right _ (by have := lB_ge (t := t) h; omega)
  by_cases hh : Int.gcd (lT t b) (lB t b) = 1
  · exact hh
  · have e6 : (2 : Int) ≤ ((Int.gcd (lT t b) (lB t b) : Nat) : Int) := by omega
    have : 2 * gc t b ≤ ((Int.gcd (lT t b) (lB t b) : Nat) : Int) * gc t b := Int.mul_le_mul_of_nonneg_right e6 (by omega)
    omega
theorem l_unique {t b p q : Int} (hb : b ≠ 0) (hq : 0 < q) (hg : Int.gcd p q = 1) (h : p * b = t * q) : p = lT t b ∧ q = lB t b := by
  have c := l_cross (t := t) hb
  have g := l_coprime (t := t) hb
  have k := lB_ge (t := t) hb
  have e : p * lB t b = lT t b * q := by
    apply Int.eq_of_mul_eq_mul_right (a := b) hb
    grind
  have d1 : q ∣ lB t b := by
    have z : q ∣ p * lB t b := by rw [e]; exact Int.dvd_mul_left _ _
    have z' : q.natAbs ∣ p.natAbs * (lB t b).natAbs := by rw [← Int.natAbs_mul]; exact Int.natAbs_dvd_natAbs.mpr z
    have cp : Nat.Coprime q.natAbs p.natAbs := by
      have : Int.gcd q p = 1 := by rw [Int.gcd_comm]; exact hg
      exact this
    exact Int.natAbs_dvd_natAbs.mp (cp.dvd_of_dvd_mul_left z')
  have d2 : lB t b ∣ q := by
    have z : lB t b ∣ lT t b * q := by rw [← e]; exact Int.dvd_mul_left _ _
    have z' : (lB t b).natAbs ∣ (lT t b).natAbs * q.natAbs := by rw [← Int.natAbs_mul]; exact Int.natAbs_dvd_natAbs.mpr z
    have cp : Nat.Coprime (lB t b).natAbs (lT t b).natAbs := by
      have : Int.gcd (lB t b) (lT t b) = 1 := by rw [Int.gcd_comm]; exact g
      exact this
    exact Int.natAbs_dvd_natAbs.mp (cp.dvd_of_dvd_mul_left z')
  have eq : q = lB t b := Int.dvd_antisymm (by omega) (by omega) d1 d2
  refine ⟨?_, eq⟩
  rw [← eq] at e
  exact Int.eq_of_mul_eq_mul_right (a := q) (by omega) e
theorem l_eq {t b t' b' : Int} (hb : b ≠ 0) (hb' : b' ≠ 0) (h : t * b' = t' * b) : lT t b = lT t' b' ∧ lB t b = lB t' b' := by
  refine l_unique hb' (by have := lB_ge (t := t) hb; omega) (l_coprime hb) ?_
  have c := l_cross (t := t) hb
  apply Int.eq_of_mul_eq_mul_right (a := b) hb
  grind
end Fra
namespace Fra
def lc (m b : Int) : Int := m * b / gc m b
theorem lc_eq {m b : Int} (hm : 0 < m) (hb : 0 < b) : lc m b = (Int.lcm m b : Int) := by
  unfold lc gc
  have h := Int.gcd_mul_lcm m b
  have g0 : 0 < Int.gcd m b := Int.gcd_pos_of_ne_zero_right _ (by omega)
  have e : m * b = (Int.gcd m b : Int) * (Int.lcm m b : Int) := by
    have h2 : ((m.gcd b * m.lcm b : Nat) : Int) = ((m.natAbs * b.natAbs : Nat) : Int) := by rw [h]
    rw [Int.natCast_mul, Int.natCast_mul] at h2
    rw [h2]
    rw [Int.natAbs_of_nonneg (by omega), Int.natAbs_of_nonneg (by omega)]
  rw [e, Int.mul_ediv_cancel_left _ (by omega)]
theorem lc_pos {m b : Int} (hm : 0 < m) (hb : 0 < b) : 0 < lc m b := by
  rw [lc_eq hm hb]
  have : 0 < Int.lcm m b := Int.lcm_pos (by omega) (by omega)
  omega
theorem lc_l {m b : Int} (hm : 0 < m) (hb : 0 < b) : m ∣ lc m b := by rw [lc_eq hm hb]; exact Int.dvd_lcm_left ..
theorem lc_r {m b : Int} (hm : 0 < m) (hb : 0 < b) : b ∣ lc m b := by rw [lc_eq hm hb]; exact Int.dvd_lcm_right ..
theorem lc_least {m b n : Int} (hm : 0 < m) (hb : 0 < b) (h1 : m ∣ n) (h2 : b ∣ n) : lc m b ∣ n := by
  rw [lc_eq hm hb]
  have := Int.lcm_dvd (a := m) (b := b) (c := n.natAbs) (Int.dvd_natAbs.mpr h1) (Int.dvd_natAbs.mpr h2)
  exact Int.dvd_natAbs.mp (Int.natCast_dvd_natCast.mpr this)
def lcF (m : Int) (bs : List Int) : Int := bs.foldl lc m
theorem lcF_pos : ∀ {bs : List Int} {m : Int}, 0 < m → (∀ b ∈ bs, 0 < b) → 0 < lcF m bs
  | [], _, h, _ => h
  | b :: bs, m, h, hb => lcF_pos (bs := bs) (lc_pos h (hb b (.head _))) fun c hc => hb c (.tail _ hc)
theorem lcF_dvd : ∀ {bs : List Int} {m : Int}, 0 < m → (∀ b ∈ bs, 0 < b) → m ∣ lcF m bs ∧ ∀ b ∈ bs, b ∣ lcF m bs
  | [], m, _, _ => ⟨Int.dvd_refl _, fun _ h => nomatch h⟩
  | c :: bs, m, h, hb => by
    have hc := hb c (.head _)
    obtain ⟨h1, h2⟩ := lcF_dvd (bs := bs) (lc_pos h hc) fun x hx => hb x (.tail _ hx)
    refine ⟨Int.dvd_trans (lc_l h hc) h1, fun b hbm => ?_⟩
    rcases List.mem_cons.mp hbm with rfl | hbm
    · exact Int.dvd_trans (lc_r h hc) h1
    · exact h2 b hbm
theorem lcF_least : ∀ {bs : List Int} {m n : Int}, 0 < m → (∀ b ∈ bs, 0 < b) → m ∣ n → (∀ b ∈ bs, b ∣ n) → lcF m bs ∣ n
  | [], _, _, _, _, h, _ => h
  | c :: bs, m, n, h, hb, h1, h2 => lcF_least (bs := bs) (lc_pos h (hb c (.head _))) (fun x hx => hb x (.tail _ hx)) (lc_least h (hb c (.head _)) h1 (h2 c (.head _))) fun x hx => h2 x (.tail _ hx)
theorem lcF_append (m : Int) (bs : List Int) (b : Int) : lcF m (bs ++ [b]) = lc (lcF m bs) b := by unfold lcF; rw [List.foldl_append]; rfl
end Fra
namespace L2
open PySem PySem.Spec PyProof.Rows
theorem rng_get {lo : Int} {n j : Nat} {d : Dv} (h : (rngD lo n)[j]? = some d) : j < n ∧ d = di (lo + (j : Int)) := by
  rw [List.getElem?_map] at h
  rcases Nat.lt_or_ge j n with hj | hj
  · rw [List.getElem?_range hj] at h; cases h; exact ⟨hj, rfl⟩
  · rw [List.getElem?_eq_none (by simpa using hj)] at h; cases h
theorem map_get {α β : Type} {f : α → β} {l : List α} {j : Nat} {d : β} (h : (l.map f)[j]? = some d) : ∃ x, l[j]? = some x ∧ d = f x := by
  rw [List.getElem?_map] at h
  cases q : l[j]? with
  | none => rw [q] at h; cases h
  | some x => rw [q] at h; cases h; exact ⟨x, rfl, rfl⟩
theorem take_get {α : Type} {l : List α} {i : Nat} {x : α} (h : l[i]? = some x) : l.take (i + 1) = l.take i ++ [x] := by rw [List.take_succ, h]; rfl
theorem Rns.fg {ι : Type} {F : Fam ι} {sts : List Stmt} {ρ ρ1 ρ2 : En} (h : Rns F sts ρ (.nx ρ1)) (f : Fg ρ1 ρ2) : Rns F sts ρ (.nx ρ2) := by
  obtain ⟨τ, x, y⟩ := h
  exact ⟨τ, x, fun D σ G0 H0 G H r k => y D σ G0 H0 G H r fun σ' G' H' r' => k σ' G' H' (f.rs r')⟩
theorem rns_freezeTo {ι : Type} {F : Fam ι} {sts : List Stmt} {ρ : En} {o : Out} {t : Tr} {d : Dv} (j : Nat) (hj : ρ[j]? = some (some t)) (e : er t = d) (h : Rns F sts (ρ.set j (some (.fz d))) o) : Rns F sts ρ o := rns_freeze j hj (e ▸ h)
theorem rns_while_by {ι : Type} {F : Fam ι} {sts body : List Stmt} {ρ : En} {o : Out} {c : Expr} {pos : Pos} {α : Type} (S : α → En) (Pp : α → Prop) (p : α → Bool) (μ : α → Nat) (a0 : α) (e : S a0 = ρ) (h0 : Pp a0) (hc : ∀ a, Pp a → EtS F c (S a) (p a)) (hb : ∀ a, Pp a → p a = true → ∃ a', Pp a' ∧ μ a' < μ a ∧ Rns F body (S a) (.nx (S a')))
    (fin : ∀ a, Pp a → p a = false → Rns F sts (S a) o) (hx : ∀ i, (F.cx i).xe = NoX := by intro _; rfl) : Rns F (.While c body [] pos :: sts) ρ o := by
  subst e
  obtain ⟨a', h1, h2, h3⟩ := rn_while_by S Pp p μ hc hb a0 h0 hx
  exact rns_cons h3 (fin a' h1 h2)
def cellF (ns : List Int) (k : Int) : Int := ns.getD k.toNat 0
theorem cell_in {ns : List Int} {k : Int} (h0 : 0 ≤ k) (h : k < ns.length) : atI (ns.map di) k = some (di (cellF ns k)) := by
  obtain ⟨j, rfl⟩ : ∃ j : Nat, k = (j : Int) := ⟨k.toNat, by omega⟩
  have hj : j < ns.length := by omega
  refine atI_nat ?_
  unfold cellF
  rw [List.getElem?_map, List.getElem?_eq_getElem hj, List.getD_eq_getElem?_getD, show (j : Int).toNat = j by omega, List.getElem?_eq_getElem hj]
  rfl
theorem cell_out {ns : List Int} {k : Int} (h0 : 0 ≤ k) (h : ns.length ≤ k) : cellF ns k = 0 := by
  unfold cellF
  rw [List.getD_eq_getElem?_getD, List.getElem?_eq_none (by omega)]
  rfl
theorem big_lt {a : Int} (h : a.natAbs < 2 ^ 4000) : a.natAbs < 2 ^ 8000 := Nat.lt_of_lt_of_le h (Nat.pow_le_pow_right (by decide) (by decide))
mutual
noncomputable def okD : Dv → Bool
  | .fl v => flatV v
  | .lst ds => okDs ds
  | .tup ds => okDs ds
noncomputable def okDs : List Dv → Bool
  | [] => true
  | d :: ds => okD d && okDs ds
end
mutual
theorem eqD_refl : ∀ {d : Dv}, okD d = true → eqD d d = true
  | .fl v, h => eqV_refl h
  | .lst ds, h => eqDs_refl h
  | .tup ds, h => eqDs_refl h
theorem eqDs_refl : ∀ {ds : List Dv}, okDs ds = true → eqDs ds ds = true
  | [], _ => rfl
  | d :: ds, h => by
    have h' : (okD d && okDs ds) = true := h
    rw [Bool.and_eq_true] at h'
    show (eqD d d && eqDs ds ds) = true
    rw [eqD_refl h'.1, eqDs_refl h'.2]
    rfl
end
theorem okDs_map {α : Type} {f : α → Dv} (h : ∀ a, okD (f a) = true) : ∀ l : List α, okDs (l.map f) = true
  | [] => rfl
  | a :: l => by
    show (okD (f a) && okDs (l.map f)) = true
    rw [h a, okDs_map h l]
    rfl
theorem dpDs_le {n : Nat} : ∀ {ds : List Dv}, (∀ d ∈ ds, dpD d ≤ n) → dpDs ds ≤ n
  | [], _ => Nat.zero_le _
  | d :: ds, h => by
    show max (dpD d) (dpDs ds) ≤ n
    exact Nat.max_le.mpr ⟨h d (.head _), dpDs_le fun x hx => h x (.tail _ hx)⟩
theorem okD_dis (l : List Int) : okD (dis l) = true := okDs_map (fun _ => rfl) l
theorem dpD_dis (l : List Int) : dpD (dis l) ≤ 1 := by
  show dpDs _ + 1 ≤ 1
  have : dpDs (l.map di) ≤ 0 := dpDs_le fun d hd => by
    obtain ⟨_, _, rfl⟩ := List.mem_map.mp hd
    exact Nat.le_refl _
  omega
theorem dpD_lst {n : Nat} {ds : List Dv} (h : ∀ d ∈ ds, dpD d ≤ n) : dpD (.lst ds) ≤ n + 1 := Nat.succ_le_succ (dpDs_le h)
theorem okD_lst {α : Type} {f : α → Dv} (h : ∀ a, okD (f a) = true) (l : List α) : okD (.lst (l.map f)) = true := okDs_map h l
end L2
namespace L2
open PySem PySem.Spec PyProof.Rows
theorem OwL.setAt {K : PySem.W.Frag} {G H : Hp} : ∀ {us : List Tr} {vs : List V} {fq : List Addr} {m : Nat} {t : Tr} {v : V} {f : List Addr}, OwL K G H us vs fq → m < us.length → Ow K G H t v f → fq.Nodup → f.Nodup → (∀ a ∈ f, a ∉ fq) →
    ∃ fw, OwL K G H (us.set m t) (vs.set m v) fw ∧ fw.Nodup ∧ ∀ a ∈ fw, a ∈ fq ∨ a ∈ f
  | u :: us, _, _, 0, t, v, f, ⟨w, r, f1, f2, h1, h2, h3, h4⟩, _, o, nd, nf, dj => by
    subst h1 h2
    have nda := List.nodup_append.mp nd
    refine ⟨f ++ f2, ⟨v, r, f, f2, rfl, rfl, o, h4⟩, List.nodup_append.mpr ⟨nf, nda.2.1, fun a ha b hb e => dj a ha (e ▸ List.mem_append_right _ hb)⟩, fun a ha => ?_⟩
    rcases List.mem_append.mp ha with z | z
    · exact .inr z
    · exact .inl (List.mem_append_right _ z)
  | u :: us, _, _, m + 1, t, v, f, ⟨w, r, f1, f2, h1, h2, h3, h4⟩, hm, o, nd, nf, dj => by
    subst h1 h2
    have nda := List.nodup_append.mp nd
    obtain ⟨fw, q1, q2, q3⟩ := OwL.setAt (m := m) h4 (Nat.lt_of_succ_lt_succ hm) o nda.2.1 nf fun a ha z => dj a ha (List.mem_append_right _ z)
    refine ⟨f1 ++ fw, ⟨w, _, f1, fw, rfl, rfl, h3, q1⟩, List.nodup_append.mpr ⟨nda.1, q2, fun a ha b hb e => ?_⟩, fun a ha => ?_⟩
    · subst e
      rcases q3 a hb with z | z
      · exact nda.2.2 a ha a z rfl
      · exact dj a z (List.mem_append_left _ ha)
    · rcases List.mem_append.mp ha with z | z
      · exact .inl (List.mem_append_left _ z)
      · exact (q3 a z).imp (List.mem_append_right _) id
theorem rn_ixset {ι : Type} {F : Fam ι} {e : Expr} {ρ : En} {t : Tr} {pos : Pos} (j : Nat) {x : Str} {us : List Tr} {n : Int} {m : Nat} {nE : Expr} {p1 p2 : Pos} (h : ρ[j]? = some (some (.ow us))) (hn : EvS F nE ρ (ti n)) (hm : ixN us.length n = some m) (he : EvS F e ρ t) (hN : ∀ i, (F.cx i).N[j]? = some x := by intro _; rfl)
    (hv : ∀ i, Vis (F.cx i).env.scope x := by intro _; first | exact Or.inl rfl | exact Or.inr (Or.inl rfl) | exact Or.inr (Or.inr rfl)) (hd : (x == ("__debug__" : Str)) = false := by decide) (hc : (x == ("__classdict__" : Str)) = false := by decide)
    (hs : ∀ i, swapsWithSole [.Subscript (.Name x p1) nE p2] e pos.line (F.cx i).env = pure false := by intro _; rfl) (hw : ∀ i, swappedStores [.Subscript (.Name x p1) nE p2] e (F.cx i).env = pure none := by intro _; rfl)
    (h1 : ∀ i, (assignEach [.Subscript (.Name x p1) nE p2] (F.cx i).env).map (·.2) = [assign (.Subscript (.Name x p1) nE p2) (F.cx i).env] := by intro _; rfl)
    (hps : ∀ i, PG (F.cx i) (.Subscript (.Name x p1) nE p2) (gSub (tVar j) (uE F nE) rSetL)) :
    Rn F (.Assign [.Subscript (.Name x p1) nE p2] e pos) ρ (.nx (ρ.set j (some (.ow (us.set m t))))) := by
  obtain ⟨τ, y, z⟩ := he
  obtain ⟨τn, yn, zn⟩ := hn
  refine ⟨tAsg τ (gSub (tVar j) (uE F nE) rSetL), fun i => ps_asg (y i) (hps i) (hs i) (hw i) (h1 i), fun D σ G0 H0 G H r k => ?_⟩
  obtain ⟨fp, r⟩ := r
  refine z σ G H fp _ r.st.s r.own r.g fun v1 G1 H1 f1 s1 o1 w1 => ?_
  have r1 : RSf F.K G0 H0 G1 H1 ρ σ fp := ⟨r.st.trans s1, r.own.mono s1.g s1.h, r.own.off s1 r.g, r.n, r.d⟩
  obtain ⟨l0, vs0, fq0, c1, c2, _⟩ := r1.mut h (.refl r1.st.s)
  refine ⟨_, c1, τn, yn, zn σ G1 H1 fp _ r1.st.s r1.own r1.g fun vn G2 H2 f2 s2 o2 w2 => ?_⟩
  obtain ⟨l, vs, fq, d1, d2, d3, d4, d5, d6, d7⟩ := r.mut h (s1.trans s2)
  rw [c1] at d1
  cases d1
  have hm' : m < us.length := (ixN_seq hm).2.1
  have nf : ∀ a ∈ f1, a ∉ fq := fun a ha hb => by
    obtain ⟨u, hu⟩ := r.own.there a (d6 a hb)
    rw [w1.n a ha] at hu; cases hu
  obtain ⟨fw, q1, q2, q3⟩ := d4.setAt hm' (o1.mono s2.g s2.h) d5 w1.d nf
  refine ⟨l0, vs, n, m, rfl, hvi o2.2, d3, by rw [← d4.length]; exact hm, k σ G2 _ (d7 (us.set m t) (vs.set m v1) fw q1 q2 fun a ha => (q3 a ha).imp id fun z => ⟨w1.n a z, ?_⟩)⟩
  cases q : G2 a with
  | none => rfl
  | some u =>
    obtain ⟨u', hu'⟩ := o1.there a z
    have := s2.n a (w1.g a z) (by rw [q]; exact fun z => nomatch z)
    rw [hu'] at this; cases this
end L2
namespace L2
open PySem PySem.Spec PyProof.Rows
section
variable {X : Cx}
def rAny (K : PySem.W.Frag) : List V → Hp → VK → Prop := fun xs H Q => ∃ (p : Addr) (bs : List Bool), xs = [.ref p] ∧ SqL K H p (bs.map V.bl) ∧ Q (.bl (bs.any id)) H
theorem range_any (bs : List Bool) : ((List.range bs.length).any fun i => (bs[i]?).getD false) = bs.any id := by
  have := congrArg (fun l : List Bool => l.any id) (map_range_get bs false id)
  simp only [List.any_map, List.map_id] at this
  exact this
theorem call_any (hc : X.calm = true) : CallR X (.builtin "any") (rAny X.K) := by
  intro pins s σ H xs us Q I r h
  obtain ⟨p, bs, rfl, hq, q⟩ := h
  cases r with
  | cons r1 rr =>
    cases rr
    cases r1
    obtain ⟨its, rv, pl, hz⟩ := I.list hq
    have hb := boolsAre rv
    have hl : s.heap.IsList p its.toArray := pl.isList
    have hlt : p < s.heap.objs.size := by obtain ⟨_, e, _⟩ := hl; exact Heap.lt_size e
    refine call_any_walk (wpAny_pyIter_list hl ?_)
    refine ⟨s.heap.objs.size, [s.heap.objs.size, p], [s.heap.objs.size], its.toArray.size, _, _, fun i => (bs[i]?).getD false, rfl, Walks.list (A := X.A.in1) (I.ok.hd hc) _ p (Nat.ne_of_lt hlt) its.toArray,
      ⟨⟨_, Heap.get?_push_size _ rfl, rfl, rfl⟩, hl.push _⟩, fun i v s' Q' E' hP hQ => ?_, fun h' tk hk => ?_⟩
    · obtain ⟨b, e, rfl⟩ := hb.get i v (by simpa using hP)
      simp only [e, Option.getD_some] at hQ
      exact wpAny_truthy_bool hQ
    · have e : ((List.range its.toArray.size).any fun i => (bs[i]?).getD false) = bs.any id := by
        rw [List.size_toArray, hb.length]; exact range_any bs
      rw [e]
      exact ⟨.bl _, H, I.kept (t' := tk) (LSm.kept_iter hk), rfl, q⟩
end
section
variable {ι : Type} {F : Fam ι} {e a b c : Expr} {es : List Expr} {ρ : En} {t ta tb' : Tr} {ts : List Tr} {pos : Pos}
theorem ints_tr (l : List Int) : (l.map di).map Tr.fz = l.map fun n => Tr.fz (di n) := by rw [List.map_map]; rfl
theorem ev_any {bs : List Bool} (hm : F.mg "any" = none) (ha : Ev F e ρ ta) (ea : er ta = .lst (bs.map db)) {p' : Pos} (hg : ∀ i, Gl (F.cx i) "any" := by intro _; rfl)
    (hs : ∀ i, starEach [e] (F.cx i).env = [(false, eval e (F.cx i).env)] := by intro _; rfl) : Ev F (.Call (.Name "any" p') [e] [] pos) ρ (tb (bs.any id)) :=
  ev_callB (r := rAny F.K) (fun i => F.hK i ▸ call_any (F.calm i)) hm bt_any (eva_cons ha eva_nil hs) (fun G H vs Q s hx k => by
    obtain ⟨x, rfl, hxx⟩ := hvl1 hx
    rw [ea] at hxx
    obtain ⟨l, ys, rfl, h1, h2⟩ := hxx
    have := hvl_bools h2
    subst this
    exact ⟨l, bs, rfl, s.seq h1, k.sc s rfl⟩) hg (by decide) (by decide) hs (fun _ => rfl)
def sortI (ns : List Int) : List Int := ns.mergeSort (fun a b => decide (a ≤ b))
theorem sortI_perm (ns : List Int) : (sortI ns).Perm ns := List.mergeSort_perm ..
theorem sortI_le (ns : List Int) : (sortI ns).Pairwise (· ≤ ·) := by
  have := List.pairwise_mergeSort (le := fun a b : Int => decide (a ≤ b)) (fun a b c h1 h2 => by simp only [decide_eq_true_eq] at *; omega) (fun a b => by simp only [Bool.or_eq_true, decide_eq_true_eq]; omega) ns
  exact this.imp fun h => by simpa using h
theorem sort_unique {a b : List Int} (p : a.Perm b) (ha : a.Pairwise (· ≤ ·)) (hb : b.Pairwise (· ≤ ·)) : a = b := List.Perm.eq_of_pairwise (fun x y _ _ h1 h2 => Int.le_antisymm h1 h2) ha hb p
theorem hvl_flat {K : PySem.W.Frag} {G : Hp} : ∀ {ws : List V} {vs : List V}, HvL K G (ws.map .fl) vs → vs = ws ∧ ws.all flatV = true
  | [], _, h => ⟨h, rfl⟩
  | _ :: _, _, ⟨x, r, h1, h2, h3⟩ => by
    obtain ⟨e1, e2⟩ := hvl_flat h3
    subst h1
    refine ⟨by rw [h2.1, e1], ?_⟩
    rw [List.all_cons, e2, h2.2]
    rfl
end
end L2
namespace L2
open PySem PySem.Spec PyProof.Rows
theorem er_map {α : Type} (l : List α) (f : α → Int) : er (.ow (l.map fun k => Tr.fz (di (f k)))) = dis (l.map f) := by
  show Dv.lst _ = Dv.lst _
  rw [ers_map, List.map_map, List.map_map]; rfl
abbrev tInts (l : List Int) : Tr := .ow (l.map fun n => .fz (di n))
abbrev tRows (L : List (List Int)) : Tr := .ow (L.map tInts)
theorem er_tInts (l : List Int) : er (tInts l) = dis l := by
  show Dv.lst _ = _
  rw [ers_map, List.map_map]; rfl
theorem er_tRows (L : List (List Int)) : er (tRows L) = .lst (L.map dis) := by
  show Dv.lst _ = _
  rw [ers_map, List.map_map]
  congr 1
  exact List.map_congr_left fun l _ => er_tInts l
theorem cl_tRows : ∀ L : List (List Int), Cls' (L.map tInts)
  | [] => True.intro
  | l :: L => ⟨cl_ints l, cl_tRows L⟩
end L2
namespace L2
open PySem PySem.Spec PyProof.Rows
theorem EvI.to {ι : Type} {F : Fam ι} {tg iter : Expr} {ρ : En} {a b : List Dv} (h : EvI F tg iter ρ a) (e : a = b) : EvI F tg iter ρ b := e ▸ h
end L2
namespace L2
open PySem PySem.Spec PyProof.Rows
theorem ev_mulS {ι : Type} {F : Fam ι} {a b : Expr} {ρ : En} {pos : Pos} {i j : Int} (ha : Ev F a ρ (ti i)) (hb : Ev F b ρ (ti j)) (hc : CMul i j) : Ev F (.BinOp a .Mult b pos) ρ (ti (i * j)) := ev_bin (fun _ => op_mul) ha hb fun G H x y Q s hx hy k => ⟨i, j, hvi hx, hvi hy, hc, k.sc s rfl⟩
theorem rns_nilF {ι : Type} {F : Fam ι} {ρ1 ρ2 : En} (f : Fg ρ1 ρ2) : Rns F [] ρ1 (.nx ρ2) := Rns.fg rns_nil f
end L2
namespace L2
open PySem PySem.Spec PyProof.Rows
section
variable {prog : Program} {w : World} {A : Around} {E : Value → Shared → Prop} {s : Shared}
end
section
variable {X : Cx}
end
section
variable {ι : Type} {F : Fam ι} {e a b c : Expr} {es : List Expr} {ρ : En} {t ta tb' : Tr} {ts : List Tr} {pos : Pos}
theorem RSf.move {K : PySem.W.Frag} {G0 H0 G H : Hp} {ρ : En} {σ : St} {fp : List Addr} {j j2 : Nat} {us : List Tr} {t : Tr} (r : RSf K G0 H0 G H ρ σ fp) (hjj : j ≠ j2) (h : ρ[j]? = some (some (.ow us))) (h2 : ρ[j2]? = some (some t)) :
    ∃ l vs v, σ[j]? = some (some (.ref l)) ∧ σ[j2]? = some (some v) ∧ H l = some (.lst vs) ∧ us.length = vs.length ∧ RS K G0 H0 G (upd H l (.lst (vs ++ [v]))) ((ρ.set j2 none).set j (some (.ow (us ++ [t])))) σ := by
  obtain ⟨v2, f2, fr2, a1, a2, a3, a4⟩ := r.own.split h2
  obtain ⟨v, f, fr, b1, b2, b3, b4⟩ := a3.split (j := j) (t := .ow us) (by rw [List.getElem?_set_ne (Ne.symm hjj)]; exact h)
  obtain ⟨l, vs, fq, rfl, hl, ol, rfl⟩ := b2
  have pm : fp.Perm (f2 ++ ((l :: fq) ++ fr)) := a4.trans (List.Perm.append_left _ b4)
  have nd := pm.nodup_iff.mp r.d
  have nd1 := List.nodup_append.mp nd
  have nd2 := List.nodup_append.mp nd1.2.1
  have nd3 := List.nodup_cons.mp nd2.1
  have lf2 : l ∉ f2 := fun z => nd1.2.2 l z l (List.mem_append_left _ (.head _)) rfl
  have lfr : l ∉ fr := fun z => nd2.2.2 l (.head _) l z rfl
  have hlp : l ∈ fp := pm.mem_iff.mpr (List.mem_append_right _ (List.mem_append_left _ (.head _)))
  have lt : j < (ρ.set j2 none).length := by
    rw [List.length_set]
    rcases Nat.lt_or_ge j ρ.length with z | z
    · exact z
    · rw [List.getElem?_eq_none z] at h; cases h
  have own : Ow K G (upd H l (.lst (vs ++ [v2]))) (.ow (us ++ [t])) (.ref l) (l :: (fq ++ (f2 ++ []))) :=
    ⟨l, vs ++ [v2], fq ++ (f2 ++ []), rfl, upd_same, (ol.frame nd3.1).append ⟨v2, [], f2, [], rfl, rfl, a2.frame lf2, rfl, rfl⟩, rfl⟩
  obtain ⟨fp', p1, p2⟩ := (b3.frame (o := .lst (vs ++ [v2])) lfr).put (get_set_none lt) own
  rw [List.set_set, set_self b1] at p1
  have pm2 : fp'.Perm fp := by
    refine p2.trans (List.Perm.trans ?_ pm.symm)
    rw [List.append_nil]
    have : ((l :: (fq ++ f2)) ++ fr).Perm ((f2 ++ (l :: fq)) ++ fr) := List.Perm.append_right fr (by
      show ((l :: fq) ++ f2).Perm (f2 ++ (l :: fq))
      exact List.perm_append_comm)
    rw [List.append_assoc] at this
    exact this
  refine ⟨l, vs, v2, b1, a1, hl, ol.length, fp', ⟨r.st.g, fun b u hb => ?_, fun b u hb => ?_, r.st.n⟩, p1, fun a ha => r.g a (pm2.mem_iff.mp ha), fun a ha => r.n a (pm2.mem_iff.mp ha), pm2.nodup_iff.mpr r.d⟩
  · have hb1 := r.st.h b u hb
    rw [upd_ne fun z => ?_]
    · exact hb1
    · subst z; rw [r.n _ hlp] at hb; cases hb
  · have hb1 := r.st.s b u hb
    rw [upd_ne fun z => ?_]
    · exact hb1
    · subst z; rw [r.g _ hlp] at hb; cases hb
theorem filt_get {α β : Type} (q : α → Bool) (h : α → β) (d : β) : ∀ l : List α, ((List.range l.length).filter fun k => ((l[k]?).map q).getD false).map (fun k => ((l[k]?).map h).getD d) = (l.filter q).map h
  | [] => rfl
  | a :: l => by
    have ih := filt_get q h d l
    rw [List.length_cons, List.range_succ_eq_map, List.filter_cons, List.filter_cons, List.filter_map]
    show List.map _ (if q a = true then _ else _) = _
    cases q a with
    | true =>
      show h a :: ((_ : List Nat).map Nat.succ).map _ = h a :: _
      rw [List.map_map, ← ih]; rfl
    | false =>
      show ((_ : List Nat).map Nat.succ).map _ = _
      rw [List.map_map]; exact ih
variable {js : List Nat} {sp : Dv → Option (List Dv)} {elt tg iter : Expr}
theorem elcf {α : Type} (l : List α) (g : α → Dv) (q : α → Bool) (h : α → Tr) {ifs : List Expr} {sc : Scope} {own : List Str} {fr : List Nat} {cl : ι → List (Str × Addr)} (hi : EvI F tg iter ρ (l.map g)) (hg : EvG (famLc F own fr sc cl) tg js sp) (hjs : ∀ j ∈ js, j < own.length) (hz : l.length < sizeLine)
    (step : ∀ a ∈ l, ∃ dd, sp (g a) = some dd ∧ El (famLc F own fr sc cl) ifs (setAll js (dd.map .fz) (lcEn own fr ρ)) (q a) ∧ (q a = true → Ev (famLc F own fr sc cl) elt (setAll js (dd.map .fz) (lcEn own fr ρ)) (h a)))
    (hdrop : ∀ dd : List Dv, dropAll js (setAll js (dd.map .fz) (lcEn own fr ρ)) = lcEn own fr ρ) : Elc F own fr sc cl elt tg iter ifs ρ (.ow ((l.filter q).map h)) := by
  have := elc (ifs := ifs) hi hg hjs (fun k => ((l[k]?).map q).getD false) (fun k => ((l[k]?).map h).getD tn) (by rw [List.length_map]; exact hz) (fun k d hd => by
    obtain ⟨a, ha, rfl⟩ := map_get hd
    obtain ⟨dd, s1, s2, s3⟩ := step a (List.mem_of_getElem? ha)
    refine ⟨dd, s1, ?_, ?_⟩
    · show El _ _ _ (((l[k]?).map q).getD false)
      rw [ha]; exact s2
    · show ((l[k]?).map q).getD false = true → Ev _ _ _ (((l[k]?).map h).getD tn)
      rw [ha]; exact s3) hdrop
  rw [List.length_map, filt_get] at this
  exact this
theorem elcm {α : Type} (l : List α) (g : α → Dv) (h : α → Tr) {sc : Scope} {own : List Str} {fr : List Nat} {cl : ι → List (Str × Addr)} (hi : EvI F tg iter ρ (l.map g)) (hg : EvG (famLc F own fr sc cl) tg js sp) (hjs : ∀ j ∈ js, j < own.length) (hz : l.length < sizeLine)
    (step : ∀ a ∈ l, ∃ dd, sp (g a) = some dd ∧ Ev (famLc F own fr sc cl) elt (setAll js (dd.map .fz) (lcEn own fr ρ)) (h a))
    (hdrop : ∀ dd : List Dv, dropAll js (setAll js (dd.map .fz) (lcEn own fr ρ)) = lcEn own fr ρ) : Elc F own fr sc cl elt tg iter [] ρ (.ow (l.map h)) := by
  have := elcf l g (fun _ => true) h hi hg hjs hz (fun a ha => let ⟨dd, s1, s2⟩ := step a ha; ⟨dd, s1, el_nil, fun _ => s2⟩) hdrop
  rwa [List.filter_eq_self.mpr fun _ _ => rfl] at this
theorem ev_lcf {α : Type} (l : List α) (g : α → Dv) (q : α → Bool) (h : α → Tr) {ifs : List Expr} {sc : Scope} {own : List Str} {fr : List Nat} {cl : ι → List (Str × Addr)} (L : ∀ i, LcScope (F.cx i) sc (cl i) fr) (hi : EvI F tg iter ρ (l.map g)) (hg : EvG (famLc F own fr sc cl) tg js sp) (hjs : ∀ j ∈ js, j < own.length) (hz : l.length < sizeLine)
    (step : ∀ a ∈ l, ∃ dd, sp (g a) = some dd ∧ El (famLc F own fr sc cl) ifs (setAll js (dd.map .fz) (lcEn own fr ρ)) (q a) ∧ (q a = true → Ev (famLc F own fr sc cl) elt (setAll js (dd.map .fz) (lcEn own fr ρ)) (h a)))
    (hdrop : ∀ dd : List Dv, dropAll js (setAll js (dd.map .fz) (lcEn own fr ρ)) = lcEn own fr ρ) (hs : ∀ i x, foldedSetIterable iter (F.cx i).env x = pure x := by intro _ _; rfl) : Ev F (.ListComp elt [⟨tg, iter, ifs, 0⟩] sc pos) ρ (.ow ((l.filter q).map h)) := by
  have := ev_lc (ifs := ifs) (pos := pos) L hi hg hjs (fun k => ((l[k]?).map q).getD false) (fun k => ((l[k]?).map h).getD tn) (by rw [List.length_map]; exact hz) (fun k d hd => by
    obtain ⟨a, ha, rfl⟩ := map_get hd
    obtain ⟨dd, s1, s2, s3⟩ := step a (List.mem_of_getElem? ha)
    refine ⟨dd, s1, ?_, ?_⟩
    · show El _ _ _ (((l[k]?).map q).getD false)
      rw [ha]; exact s2
    · show ((l[k]?).map q).getD false = true → Ev _ _ _ (((l[k]?).map h).getD tn)
      rw [ha]; exact s3) hdrop hs
  rw [List.length_map, filt_get] at this
  exact this
theorem ev_lcm {α : Type} (l : List α) (g : α → Dv) (h : α → Tr) {sc : Scope} {own : List Str} {fr : List Nat} {cl : ι → List (Str × Addr)} (L : ∀ i, LcScope (F.cx i) sc (cl i) fr) (hi : EvI F tg iter ρ (l.map g)) (hg : EvG (famLc F own fr sc cl) tg js sp) (hjs : ∀ j ∈ js, j < own.length) (hz : l.length < sizeLine)
    (step : ∀ a ∈ l, ∃ dd, sp (g a) = some dd ∧ Ev (famLc F own fr sc cl) elt (setAll js (dd.map .fz) (lcEn own fr ρ)) (h a))
    (hdrop : ∀ dd : List Dv, dropAll js (setAll js (dd.map .fz) (lcEn own fr ρ)) = lcEn own fr ρ) (hs : ∀ i x, foldedSetIterable iter (F.cx i).env x = pure x := by intro _ _; rfl) : Ev F (.ListComp elt [⟨tg, iter, [], 0⟩] sc pos) ρ (.ow (l.map h)) := by
  have := ev_lcf (pos := pos) l g (fun _ => true) h L hi hg hjs hz (fun a ha => let ⟨dd, s1, s2⟩ := step a ha; ⟨dd, s1, el_nil, fun _ => s2⟩) hdrop hs
  rwa [List.filter_eq_self.mpr fun _ _ => rfl] at this
theorem er_ow_map {α : Type} (l : List α) (h : α → Tr) : er (.ow (l.map h)) = .lst (l.map fun a => er (h a)) := by
  show Dv.lst (ers _) = _
  rw [ers_map, List.map_map]; rfl
end
end L2
namespace L2
open PySem PySem.Spec PyProof.Rows Fra
section
variable {ι : Type} {F : Fam ι} {e a b c : Expr} {es : List Expr} {ρ : En} {t ta tb' : Tr} {ts : List Tr} {pos : Pos}
theorem ev_callD {k : Nat} {f : Addr} {fd : FuncData} {ps : List Str} {R : List Dv → Tr → Prop} {x : Str} {n : Int} {tk : Tok} (Fn : Kn F.P F.w F.K F.mg F.base CX0 k x f fd ps (spT F.K R)) (B : Binds F.K fd ps [.int n tk]) (hk : k ≤ F.room) (ha : EvA F (e :: es) ρ ts) (hR : R (ers ts ++ [di n]) t) {p' : Pos} (hg : ∀ i, Gl (F.cx i) x := by intro _; rfl) (hdb : (x == ("__debug__" : Str)) = false := by decide)
    (he : ∀ i, starEach (e :: es) (F.cx i).env = (false, eval e (F.cx i).env) :: starEach es (F.cx i).env := by intro _; rfl) (hpl : ∀ i, (backTo pos (starEach es (F.cx i).env)).any (·.1) = false := by intro _; rfl) : Ev F (.Call (.Name x p') (e :: es) [] pos) ρ t := by
  obtain ⟨τ, y, z⟩ := ha.use
  refine ⟨tCall (spT F.K R) [.int n] E0 τ, fun i => ?_, fun σ G H Q s rr k => z σ G H _ s rr fun vs G1 H1 s1 hx => ?_⟩
  · have Fn' : Kn (F.cx i).prog (F.cx i).w (F.cx i).K (F.cx i).mg (F.cx i).base CX0 k x f fd ps (spT F.K R) := by
      rw [F.hP i, F.hw i, F.hK i, F.hm i, F.hb i]
      exact Fn
    exact pe_call Fn'.ok ((F.hr i).mono hk) (hg i) Fn'.mgx Fn'.kp (by rw [F.hK i]; exact B) (.cons ⟨tk, rfl⟩ .nil) pass0 (y i) hdb (he i) (hpl i)
  · show spT F.K R (vs ++ [.int n]) H1 Q E0
    have app : ∀ {ds : List Dv} {vs : List V}, HvL F.K G1 ds vs → HvL F.K G1 (ds ++ [di n]) (vs ++ [.int n]) := by
      intro ds
      induction ds with
      | nil => intro vs h; have h' : vs = [] := h; subst h'; exact ⟨_, _, rfl, ⟨rfl, rfl⟩, rfl⟩
      | cons d ds ih => intro vs ⟨x, r, h1, h2, h3⟩; subst h1; exact ⟨x, _, rfl, h2, ih h3⟩
    exact ⟨G1, _, t, s1.s, app hx, hR, k.step s1⟩
theorem ev_intb {q : Bool} (hm : F.mg "int" = none) (ha : Ev F e ρ (tb q)) {p' : Pos} (hg : ∀ i, Gl (F.cx i) "int" := by intro _; rfl)
    (hs : ∀ i, starEach [e] (F.cx i).env = [(false, eval e (F.cx i).env)] := by intro _; rfl) : Ev F (.Call (.Name "int" p') [e] [] pos) ρ (ti (if q then 1 else 0)) :=
  ev_callT (r := fun xs H Q => (∃ i, xs = [.int i] ∧ Q (.int i) H) ∨ ∃ k, xs = [.bl k] ∧ Q (.int (if k then 1 else 0)) H) (fun i => call_int1) hm bt_int (eva_cons ha eva_nil hs) (fun G H vs Q s hx k => by
    obtain ⟨x, rfl, hxx⟩ := hvl1 hx
    exact .inr ⟨q, by rw [hvi hxx], k.sc s rfl⟩) hg (by decide) (by decide) hs (fun _ => rfl)
end
abbrev dF (p : Int × Int) : Dv := .tup [di p.1, di p.2]
abbrev tF (p : Int × Int) : Tr := .fz (dF p)
def fW (W s : Int) : Int × Int := (lT s W, lB s W)
theorem fW_pos {W s : Int} (h : 0 < W) : 0 < (fW W s).2 := by have := lB_ge (t := s) (show W ≠ 0 by omega); show 0 < lB s W; omega
theorem fW_le {W s : Int} (h : 0 < W) : (fW W s).2 ≤ W := by have := lB_le (t := s) (show W ≠ 0 by omega); show lB s W ≤ W; omega
theorem fW_top {W s : Int} (h : 0 < W) : (fW W s).1.natAbs ≤ s.natAbs := lT_abs (show W ≠ 0 by omega)
theorem fW_cross {W s : Int} (h : 0 < W) : (fW W s).1 * W = s * (fW W s).2 := l_cross (show W ≠ 0 by omega)
theorem fW_gcd {W s : Int} (h : 0 < W) : Int.gcd (fW W s).1 (fW W s).2 = 1 := l_coprime (show W ≠ 0 by omega)
theorem fW_nonneg {W s : Int} (h : 0 < W) (hs : 0 ≤ s) : 0 ≤ (fW W s).1 := by
  have c := fW_cross (s := s) h
  have p := fW_pos (s := s) h
  rcases Int.lt_or_le (fW W s).1 0 with z | z
  · have : (fW W s).1 * W < 0 := Int.mul_neg_of_neg_of_pos z h
    have : 0 ≤ s * (fW W s).2 := Int.mul_nonneg hs (by omega)
    omega
  · exact z
theorem fW_same {W s t b : Int} (h : 0 < W) (hb : b ≠ 0) (e : t * W = s * b) : (lT t b, lB t b) = fW W s := by
  obtain ⟨h1, h2⟩ := l_eq hb (show W ≠ 0 by omega) e
  show _ = (_, _)
  rw [h1, h2]
theorem fW_plus {W s t : Int} (h : 0 < W) : (lT ((fW W s).1 * (fW W t).2 + (fW W t).1 * (fW W s).2) ((fW W s).2 * (fW W t).2), lB ((fW W s).1 * (fW W t).2 + (fW W t).1 * (fW W s).2) ((fW W s).2 * (fW W t).2)) = fW W (s + t) := by
  have p1 := fW_pos (s := s) h
  have p2 := fW_pos (s := t) h
  have c1 := fW_cross (s := s) h
  have c2 := fW_cross (s := t) h
  generalize (fW W s).1 = a at *
  generalize (fW W s).2 = b at *
  generalize (fW W t).1 = c at *
  generalize (fW W t).2 = d at *
  refine fW_same h (by have := Int.mul_pos p1 p2; omega) ?_
  have e1 : (a * d + c * b) * W = (a * W) * d + (c * W) * b := by
    rw [Int.add_mul, Int.mul_right_comm a d W, Int.mul_right_comm c b W]
  rw [e1, c1, c2, Int.add_mul, Int.mul_assoc s b d, Int.mul_assoc t d b, Int.mul_comm d b]
theorem fW_inj {W s t : Int} (h : 0 < W) (e : fW W s = fW W t) : s = t := by
  have c1 := fW_cross (s := s) h
  have c2 := fW_cross (s := t) h
  rw [e] at c1
  have p := fW_pos (s := t) h
  have : s * (fW W t).2 = t * (fW W t).2 := by rw [← c1, ← c2]
  exact Int.eq_of_mul_eq_mul_right (by omega) this
theorem fW_self {W : Int} (h : 0 < W) : fW W W = (1, 1) := by
  have := l_unique (t := W) (b := W) (p := 1) (q := 1) (by omega) (by decide) (by decide) (by rw [Int.one_mul, Int.mul_one])
  show (_, _) = _
  rw [← this.1, ← this.2]
theorem fW_zero {W : Int} (h : 0 < W) : fW W 0 = (0, 1) := by
  have := l_unique (t := 0) (b := W) (p := 0) (q := 1) (by omega) (by decide) (by decide) (by rw [Int.zero_mul, Int.zero_mul])
  show (_, _) = _
  rw [← this.1, ← this.2]
theorem fW_lt {W s t : Int} (h : 0 < W) : (fW W s).1 * (fW W t).2 < (fW W t).1 * (fW W s).2 ↔ s < t := by
  have p1 := fW_pos (s := s) h
  have p2 := fW_pos (s := t) h
  have c1 := fW_cross (s := s) h
  have c2 := fW_cross (s := t) h
  generalize (fW W s).1 = a at *
  generalize (fW W s).2 = b at *
  generalize (fW W t).1 = c at *
  generalize (fW W t).2 = d at *
  have bd : 0 < b * d := Int.mul_pos p1 p2
  have e1 : a * d * W = s * (b * d) := by rw [Int.mul_right_comm, c1, Int.mul_assoc]
  have e2 : c * b * W = t * (b * d) := by rw [Int.mul_right_comm, c2, Int.mul_assoc, Int.mul_comm d b]
  constructor
  · intro z
    have := Int.mul_lt_mul_of_pos_right z h
    rw [e1, e2] at this
    exact Int.lt_of_mul_lt_mul_right this (by omega)
  · intro z
    have := Int.mul_lt_mul_of_pos_right z bd
    rw [← e1, ← e2] at this
    exact Int.lt_of_mul_lt_mul_right this (by omega)
end L2
namespace L2
open PySem PySem.Spec PyProof.Rows
section
variable {ι : Type} {F : Fam ι} {e a b c : Expr} {es : List Expr} {ρ : En} {t ta tb' : Tr} {ts : List Tr} {pos : Pos}
theorem Rn.to {st : Stmt} {ρ1 ρ2 : En} (h : Rn F st ρ (.nx ρ1)) (e : ρ1 = ρ2) : Rn F st ρ (.nx ρ2) := e ▸ h
end
end L2
namespace L2
open PySem PySem.Spec PyProof.Rows
section
variable {prog : Program} {w : World} {A : Around} {E : Value → Shared → Prop} {s : Shared}
end
end L2
namespace PySem.F
end PySem.F
namespace L2
open PySem PySem.Spec PyProof.Rows
section
variable {prog : Program} {w : World} {A : Around} {E : Value → Shared → Prop} {s : Shared}
end
section
variable {prog : Program} {w : World} {A : Around} {s : Shared} {R : Result → Shared → Prop}
end
section
variable {ι : Type} {F : Fam ι} {a b : Expr} {ρ : En} {ta tb' : Tr} {pos : Pos}
end
end L2
namespace L2
open PySem PySem.Spec PyProof.Rows
section
variable {ι : Type} {F : Fam ι} {sts : List Stmt} {ρ : En} {o : Out} {t : Tr}
end
section
variable {ι : Type} {F : Fam ι} {a b : Expr} {ρ : En} {pos : Pos}
end
theorem lcs2' {X : Cx} {own0 : List Str} {fr0 : List Nat} {sc0 : Scope} {cl0 : List (Str × Addr)} {C : Addr} {s : Shared} {H : Hp} {ex : List Addr} {pn : List (Addr × Obj)} {sc : Scope} {fr : List Nat} (N2 : List Str)
    (L : LcNames2 N2 sc0 sc fr) (hcl : ∀ y, (y, NameKind.free) ∈ sc0.names → ∃ c, cl0.lookup y = some c) (eN : (own0 ++ fr0.map fun j => X.N.getD j "") = N2 := by rfl) :
    LcScope (cxLc X own0 fr0 sc0 cl0 C s H ex pn) sc (closF (cellsFrom (C + 1) sc0.names cl0) sc.names []) fr := by
  subst eN
  exact lcs2 L hcl
end L2
namespace L2
open PySem PySem.Spec PyProof.Rows
end L2
namespace L2
open PySem PySem.Spec PyProof.Rows
theorem ints_ow {K : PySem.W.Frag} {G H : Hp} : ∀ {o : List Int} {xs : List V} {fq : List Addr}, OwL K G H (o.map fun n => .fz (di n)) xs fq → xs = o.map V.int ∧ fq = []
  | [], _, _, h => h
  | n :: o, _, _, ⟨v, r, f1, f2, h1, h2, ⟨h3, h3'⟩, h4⟩ => by
    obtain ⟨e1, e2⟩ := ints_ow h4
    subst h1 h2 h3 e1 e2
    rw [hvi h3']
    exact ⟨rfl, rfl⟩
def Md (f : List Addr) (H H2 : Hp) : Prop := ∀ b o, b ∉ f → H b = some o → H2 b = some o
theorem Md.trans {f : List Addr} {H H1 H2 : Hp} (a : Md f H H1) (b : Md f H1 H2) : Md f H H2 := fun x o n h => b x o n (a x o n h)
theorem Md.upd {f : List Addr} {H : Hp} {l : Addr} {o : HO} (hl : l ∈ f) : Md f H (L2.upd H l o) := fun b u n h => by
  rw [upd_ne (show b ≠ l from fun z => n (z ▸ hl))]; exact h
theorem Md.new {f : List Addr} {H : Hp} {l : Addr} {o : HO} (hl : H l = none) : Md f H (L2.upd H l o) := fun b u n h => by
  rw [upd_ne (show b ≠ l from fun z => by subst z; rw [hl] at h; cases h)]; exact h
theorem Md.same {f : List Addr} {H H' : Hp} (s : Same H H') : Md f H H' := fun b o _ h => s b o h
theorem Md.sub {f f' : List Addr} {H H' : Hp} (m : Md f H H') (s : ∀ a ∈ f, a ∈ f') : Md f' H H' := fun b o n h => m b o (fun z => n (s b z)) h
mutual
theorem Ow.agree {K : PySem.W.Frag} {G H H2 : Hp} : ∀ {t : Tr} {v : V} {fp : List Addr}, Ow K G H t v fp → (∀ a ∈ fp, H2 a = H a) → Ow K G H2 t v fp
  | .fz _, _, _, h, _ => h
  | .ow _, _, _, ⟨b, vs, fq, h1, h2, h3, h4⟩, n => by
    subst h4
    exact ⟨b, vs, fq, h1, (n b (.head _)).trans h2, OwL.agree h3 fun a z => n a (.tail _ z), rfl⟩
  | .tp _, _, _, ⟨b, vs, fq, h1, h2, h3, h4⟩, n => by
    subst h4
    exact ⟨b, vs, fq, h1, (n b (.head _)).trans h2, OwL.agree h3 fun a z => n a (.tail _ z), rfl⟩
theorem OwL.agree {K : PySem.W.Frag} {G H H2 : Hp} : ∀ {ts : List Tr} {vs : List V} {fp : List Addr}, OwL K G H ts vs fp → (∀ a ∈ fp, H2 a = H a) → OwL K G H2 ts vs fp
  | [], _, _, h, _ => h
  | _ :: _, _, _, ⟨v, r, f1, f2, h1, h2, h3, h4⟩, n => by
    subst h2
    exact ⟨v, r, f1, f2, h1, rfl, h3.agree fun a z => n a (List.mem_append_left _ z), OwL.agree h4 fun a z => n a (List.mem_append_right _ z)⟩
end
theorem OwS.agree {K : PySem.W.Frag} {G H H2 : Hp} : ∀ {ρ : En} {σ : St} {fp : List Addr}, OwS K G H ρ σ fp → (∀ a ∈ fp, H2 a = H a) → OwS K G H2 ρ σ fp
  | [], _, _, h, _ => h
  | none :: _, _, _, ⟨o, r, h1, h2⟩, n => ⟨o, r, h1, OwS.agree h2 n⟩
  | some _ :: _, _, _, ⟨v, r, f1, f2, h1, h2, h3, h4⟩, n => by
    subst h2
    exact ⟨v, r, f1, f2, h1, rfl, h3.agree fun a z => n a (List.mem_append_left _ z), OwS.agree h4 fun a z => n a (List.mem_append_right _ z)⟩
theorem OwS.setn {K : PySem.W.Frag} {G H : Hp} {u : Option V} : ∀ {ρ : En} {σ : St} {fp : List Addr} {y : Nat}, OwS K G H ρ σ fp → ρ[y]? = some none → OwS K G H ρ (σ.set y u) fp
  | none :: _, _, _, 0, ⟨o, r, h1, h2⟩, _ => by subst h1; exact ⟨u, r, rfl, h2⟩
  | none :: _, _, _, y + 1, ⟨o, r, h1, h2⟩, h => by subst h1; exact ⟨o, _, rfl, OwS.setn (y := y) h2 h⟩
  | some _ :: _, _, _, 0, _, h => by cases h
  | some _ :: _, _, _, y + 1, ⟨v, r, f1, f2, h1, h2, h3, h4⟩, h => by subst h1; exact ⟨v, _, f1, f2, rfl, h2, h3, OwS.setn (y := y) h4 h⟩
theorem RS.setn {K : PySem.W.Frag} {G0 H0 G H : Hp} {ρ : En} {σ : St} {y : Nat} {u : Option V} (r : RS K G0 H0 G H ρ σ) (h : ρ[y]? = some none) : RS K G0 H0 G H ρ (σ.set y u) := by
  obtain ⟨fp, r⟩ := r
  exact ⟨fp, r.st, r.own.setn h, r.g, r.n, r.d⟩
section
variable {ι : Type} {F : Fam ι} {ρ ρ' : En} {o : Out} {rest : List Stmt}
end
theorem lc_put {ι : Type} {F : Fam ι} {own : List Str} {fr : List Nat} {sc : Scope} {cl : ι → List (Str × Addr)} {elt tg iter : Expr} {ifs : List Expr} {ρ : En} {t : Tr} {pos spos py : Pos} (j : Nat) {x : Str} (h : Elc F own fr sc cl elt tg iter ifs ρ t) (L : ∀ i, LcScope (F.cx i) sc (cl i) fr) (hN : ∀ i, (F.cx i).N.Nodup) (hi : ∀ i, (F.cx i).N[j]? = some x := by intro _; rfl)
    (hx : ∀ i, Loc (F.cx i).env.scope x := by intro _; first | exact Or.inl rfl | exact Or.inr rfl) (hsw : ∀ i, swapsWith (.ListComp elt [⟨tg, iter, ifs, 0⟩] sc pos) (some (.Name x py)) spos.line (F.cx i).env = pure true := by intro _; rfl)
    (hf : ∀ i, (F.cx i).fn x = true ∨ (F.cx i).env.scope.names.lookup x = some .local := by intro _; first | exact .inl rfl | exact .inr rfl) (hs : ∀ i x, foldedSetIterable iter (F.cx i).env x = pure x := by intro _ _; rfl) :
    ∃ τ, (∀ i, PS (F.cx i) (.Assign [.Name x py] (.ListComp elt [⟨tg, iter, ifs, 0⟩] sc pos) spos) τ) ∧ ∀ D σ G H, Same G H → RpD F.K G ρ σ → (∀ v G' H' fq, Step G H G' H' → Ow F.K G' H' t v fq → Nw H G' fq → D.nx (σ.set j (some v)) H') → τ D σ H := by
  obtain ⟨τ, ⟨wi, g, tt, te, rfl, h1, h2, h3, h4⟩, z⟩ := h
  refine ⟨_, fun i => ps_lcset (cl := cl i) (L i) (F.calm i) (h1 i) (fun C s H ex pn => h2 (i, ⟨C, s, H, ex, pn⟩)) (fun C s H ex pn => h3 (i, ⟨C, s, H, ex, pn⟩)) (fun C s H ex pn => h4 (i, ⟨C, s, H, ex, pn⟩)) (hN i) (hi i) (hx i) (hsw i) (hf i) (hs i), fun D σ G H s r k => ?_⟩
  exact z σ G H _ s r fun v G1 H1 fq s1 o w => k v G1 H1 fq s1 o w
end L2
namespace L2
open PySem PySem.Spec PyProof.Rows
def isFl : Dv → Bool
  | .fl _ => true
  | _ => false
def lfD : Dv → Bool
  | .fl _ => true
  | .lst _ => false
  | .tup ds => ds.all isFl
mutual
noncomputable def lfT : Tr → Bool
  | .fz d => lfD d
  | .ow ts => lfTs ts
  | .tp ts => lfTs ts
noncomputable def lfTs : List Tr → Bool
  | [] => true
  | t :: ts => lfT t && lfTs ts
end
theorem lfTs_of : ∀ {ts : List Tr}, (∀ t ∈ ts, lfT t = true) → lfTs ts = true
  | [], _ => rfl
  | t :: ts, h => by
    show (lfT t && lfTs ts) = true
    rw [h t (.head _), lfTs_of fun t' ht => h t' (.tail _ ht)]; rfl
def isO : Tr → Bool
  | .fz _ => false
  | _ => true
mutual
noncomputable def gdT : Tr → Bool
  | .fz _ => true
  | .ow ts => gdTs ts
  | .tp ts => ts.any isO && gdTs ts
noncomputable def gdTs : List Tr → Bool
  | [] => true
  | t :: ts => gdT t && gdTs ts
end
theorem gdTs_of : ∀ {ts : List Tr}, (∀ t ∈ ts, gdT t = true) → gdTs ts = true
  | [], _ => rfl
  | t :: ts, h => by
    show (gdT t && gdTs ts) = true
    rw [h t (.head _), gdTs_of fun t' ht => h t' (.tail _ ht)]; rfl
def Gd (H : Hp) (a : Addr) : Prop := (∃ xs, H a = some (.lst xs)) ∨ ∃ xs b, H a = some (.tup xs) ∧ V.ref b ∈ xs
theorem any_ref {K : PySem.W.Frag} {G H : Hp} : ∀ {ts : List Tr} {vs : List V} {fp : List Addr}, OwL K G H ts vs fp → ts.any isO = true → ∃ b, V.ref b ∈ vs
  | [], _, _, _, h => by cases h
  | t :: ts, _, _, ⟨v, r, f1, f2, h1, h2, h3, h4⟩, h => by
    subst h1
    rw [List.any_cons, Bool.or_eq_true] at h
    rcases h with h | h
    · cases t with
      | fz d => cases h
      | ow us => obtain ⟨a, _, _, rfl, _⟩ := h3; exact ⟨a, .head _⟩
      | tp us => obtain ⟨a, _, _, rfl, _⟩ := h3; exact ⟨a, .head _⟩
    · obtain ⟨b, hb⟩ := any_ref h4 h
      exact ⟨b, .tail _ hb⟩
mutual
theorem Ow.gd {K : PySem.W.Frag} {G H : Hp} : ∀ {t : Tr} {v : V} {fp : List Addr}, Ow K G H t v fp → gdT t = true → ∀ a ∈ fp, Gd H a
  | .fz _, _, _, ⟨h, _⟩, _, a, ha => by subst h; cases ha
  | .ow ts, _, _, ⟨b, vs, fq, h1, h2, h3, h4⟩, g, a, ha => by
    subst h4
    rcases List.mem_cons.mp ha with rfl | ha
    · exact .inl ⟨_, h2⟩
    · exact OwL.gd h3 g a ha
  | .tp ts, _, _, ⟨b, vs, fq, h1, h2, h3, h4⟩, g, a, ha => by
    subst h4
    have g' : (ts.any isO && gdTs ts) = true := g
    rw [Bool.and_eq_true] at g'
    rcases List.mem_cons.mp ha with rfl | ha
    · obtain ⟨c, hc⟩ := any_ref h3 g'.1
      exact .inr ⟨_, c, h2, hc⟩
    · exact OwL.gd h3 g'.2 a ha
theorem OwL.gd {K : PySem.W.Frag} {G H : Hp} : ∀ {ts : List Tr} {vs : List V} {fp : List Addr}, OwL K G H ts vs fp → gdTs ts = true → ∀ a ∈ fp, Gd H a
  | [], _, _, ⟨_, h⟩, _, a, ha => by subst h; cases ha
  | t :: ts, _, _, ⟨v, r, f1, f2, h1, h2, h3, h4⟩, g, a, ha => by
    subst h2
    have g' : (gdT t && gdTs ts) = true := g
    rw [Bool.and_eq_true] at g'
    rcases List.mem_append.mp ha with ha | ha
    · exact h3.gd g'.1 a ha
    · exact OwL.gd h4 g'.2 a ha
end
def gdS (ρ : En) : Bool := ρ.all fun o => match o with
  | none => true
  | some t => gdT t
theorem OwS.gd {K : PySem.W.Frag} {G H : Hp} : ∀ {ρ : En} {σ : St} {fp : List Addr}, OwS K G H ρ σ fp → gdS ρ = true → ∀ a ∈ fp, Gd H a
  | [], _, _, ⟨_, h⟩, _, a, ha => by subst h; cases ha
  | none :: ρ, _, _, ⟨o, r, h1, h2⟩, g, a, ha => OwS.gd (ρ := ρ) h2 g a ha
  | some t :: ρ, _, _, ⟨v, r, f1, f2, h1, h2, h3, h4⟩, g, a, ha => by
    subst h2
    have g' : (gdT t && gdS ρ) = true := g
    rw [Bool.and_eq_true] at g'
    rcases List.mem_append.mp ha with ha | ha
    · exact h3.gd g'.1 a ha
    · exact OwS.gd h4 g'.2 a ha
theorem hvl_flats {K : PySem.W.Frag} {G : Hp} : ∀ {ds : List Dv} {xs : List V}, HvL K G ds xs → ds.all isFl = true → (∀ G', HvL K G' ds xs) ∧ ∀ b, V.ref b ∉ xs
  | [], _, h, _ => by rw [show _ = [] from h]; exact ⟨fun _ => rfl, fun _ z => nomatch z⟩
  | .fl v :: ds, _, ⟨x, r, h1, h2, h3⟩, g => by
    subst h1
    obtain ⟨q1, q2⟩ := hvl_flats h3 (show ds.all isFl = true from g)
    obtain ⟨rfl, hf⟩ := h2
    refine ⟨fun G' => ⟨_, r, rfl, ⟨rfl, hf⟩, q1 G'⟩, fun b z => ?_⟩
    rcases List.mem_cons.mp z with z | z
    · subst z; cases hf
    · exact q2 b z
  | .lst _ :: _, _, _, g => by cases g
  | .tup _ :: _, _, _, g => by cases g
theorem Hv.lf {K : PySem.W.Frag} {G : Hp} {fp : List Addr} (hg : ∀ a ∈ fp, Gd G a) : ∀ {d : Dv} {v : V}, Hv K G d v → lfD d = true → Hv K (less G fp) d v
  | .fl _, _, h, _ => h
  | .lst _, _, _, g => by cases g
  | .tup ds, _, ⟨a, xs, h1, h2, h3⟩, g => by
    obtain ⟨q1, q2⟩ := hvl_flats h3 g
    refine ⟨a, xs, h1, ?_, q1 _⟩
    have out : ∀ o, G a = some o → (∀ xs, o ≠ .lst xs) → (∀ ys, o = .tup ys → ys = xs) → less G fp a = some o := fun o ho n1 n2 => by
      rw [less_out fun z => ?_]
      · exact ho
      · rcases hg a z with ⟨ys, hy⟩ | ⟨ys, b, hy, hb⟩
        · rw [ho] at hy; cases hy; exact n1 ys rfl
        · rw [ho] at hy
          cases hy
          rw [n2 ys rfl] at hb
          exact q2 b hb
    rcases h2 with (h | ⟨o, h⟩) | h
    · exact .inl (.inl (out _ h (fun _ z => nomatch z) fun ys z => by cases z; rfl))
    · exact .inl (.inr ⟨o, out _ h (fun _ z => nomatch z) fun ys z => nomatch z⟩)
    · exact .inr h
mutual
theorem Ow.lf {K : PySem.W.Frag} {G H : Hp} {fp : List Addr} (hg : ∀ a ∈ fp, Gd G a) : ∀ {t : Tr} {v : V} {fq : List Addr}, Ow K G H t v fq → lfT t = true → Ow K (less G fp) H t v fq
  | .fz _, _, _, ⟨h1, h2⟩, g => ⟨h1, h2.lf hg g⟩
  | .ow _, _, _, ⟨b, vs, fq, h1, h2, h3, h4⟩, g => ⟨b, vs, fq, h1, h2, OwL.lf hg h3 g, h4⟩
  | .tp _, _, _, ⟨b, vs, fq, h1, h2, h3, h4⟩, g => ⟨b, vs, fq, h1, h2, OwL.lf hg h3 g, h4⟩
theorem OwL.lf {K : PySem.W.Frag} {G H : Hp} {fp : List Addr} (hg : ∀ a ∈ fp, Gd G a) : ∀ {ts : List Tr} {vs : List V} {fq : List Addr}, OwL K G H ts vs fq → lfTs ts = true → OwL K (less G fp) H ts vs fq
  | [], _, _, h, _ => h
  | t :: ts, _, _, ⟨v, r, f1, f2, h1, h2, h3, h4⟩, g => by
    have g' : (lfT t && lfTs ts) = true := g
    rw [Bool.and_eq_true] at g'
    exact ⟨v, r, f1, f2, h1, h2, h3.lf hg g'.1, OwL.lf hg h4 g'.2⟩
end
theorem Ev.pkL {ι : Type} {F : Fam ι} {e : Expr} {ρ : En} {t : Tr} (h : Ev F e (L2.pk ρ) t) (c : lfT t = true) (hρ : gdS ρ = true) : EvS F e ρ t := by
  obtain ⟨τ, x, y⟩ := h
  refine ⟨τ, x, fun σ G H fp Q s r hg k => ?_⟩
  refine y σ (frzd G H fp) H Q (frzd_sub s) (r.pk (frzd_same hg) fun a ha => frzd_in ha) fun v G' H' fq st o w => ?_
  have gd : ∀ a ∈ fp, Gd G' a := fun a ha => by
    rcases r.gd hρ a ha with ⟨xs, q⟩ | ⟨xs, b, q, hb⟩
    · exact .inl ⟨xs, st.g _ _ ((frzd_in ha).trans q)⟩
    · exact .inr ⟨xs, b, st.g _ _ ((frzd_in ha).trans q), hb⟩
  refine k v (less G' fp) H' fq ⟨fun b u hb => ?_, st.h, less_sub.trans st.s, fun a h h' => ?_⟩ (o.lf gd c) ⟨w.n, fun a ha => ?_, w.d⟩
  · have nb : b ∉ fp := fun z => by rw [hg b z] at hb; cases hb
    rw [less_out nb]
    exact st.g _ _ ((frzd_out nb).trans hb)
  · have nb : a ∉ fp := fun z => h' (less_in z)
    rw [less_out nb] at h'
    exact st.n a ((frzd_out nb).trans h) h'
  · by_cases z : a ∈ fp
    · exact less_in z
    · rw [less_out z]; exact w.g a ha
end L2
namespace L2
open PySem PySem.Spec PyProof.Rows
theorem uE_of {ι : Type} {F : Fam ι} {e : Expr} {ρ : En} {t : Tr} {σ : St} {G H : Hp} {Q : VK} (h : Ev F e ρ t) (s : Same G H) (r : RpD F.K G ρ σ) (k : Kv F.K G H t Q) : uE F e σ H Q := let ⟨τ, x, y⟩ := h; ⟨τ, x, y σ G H Q s r k⟩
theorem uT_of {ι : Type} {F : Fam ι} {e : Expr} {ρ : En} {b : Bool} {σ : St} {G H : Hp} {Q : Bool → Hp → Prop} (h : Et F e ρ b) (s : Same G H) (r : RpD F.K G ρ σ) (k : ∀ G' H', Step G H G' H' → Q b H') : uT F e σ H Q := let ⟨τ, x, y⟩ := h; ⟨τ, x, y σ G H Q s r k⟩
section
variable {ι : Type} {F : Fam ι} {e : Expr} {ρ : En} {pos : Pos}
end
end L2
namespace L2
open PySem PySem.Spec PyProof.Rows
section
variable {ι : Type} {F : Fam ι} {ρ ρ1 ρ' : En} {st : Stmt} {sts body A B : List Stmt} {c tg iter : Expr} {pos : Pos} {its : List Dv} {js : List Nat} {sp : Dv → Option (List Dv)}
end
end L2
namespace L2
open PySem PySem.Spec PyProof.Rows
end L2
namespace L2
open PySem PySem.Spec PyProof.Rows
section
variable {X : Cx}
end
section
variable {ι : Type} {F : Fam ι} {e : Expr} {ρ : En} {pos : Pos} {ta : Tr}
end
section
variable {ι : Type} {F : Fam ι} {ρ : En} {t : Tr} {c : Expr} {A sts : List Stmt} {pos : Pos}
theorem rns_ifr {p : Bool} (hc : EtS F c ρ p) (h1 : p = true → Rns F A ρ (.rt t)) (h2 : p = false → Rns F sts ρ (.rt t)) : Rns F (.If c A [] pos :: sts) ρ (.rt t) := by
  cases p with
  | true => exact rns_ret (rn_ifT hc rfl (h1 rfl))
  | false => exact rns_cons (rn_skip hc rfl) (h2 rfl)
end
section
variable {ι : Type} {F : Fam ι} {ρ : En} {tg iter : Expr} {body sts : List Stmt} {pos : Pos} {its : List Dv} {js : List Nat} {sp : Dv → Option (List Dv)} {o : Out}
end
end L2
namespace L2
open PySem PySem.Spec PyProof.Rows
section
open PySem.MeetsSeq PySem.AutoSeq1
end
section
variable {X : Cx}
theorem hvl_at {K : PySem.W.Frag} {H : Hp} : ∀ {ds : List Dv} {xs : List V} {m : Nat} {d : Dv}, HvL K H ds xs → ds[m]? = some d → ∃ x, xs[m]? = some x ∧ Hv K H d x
  | d0 :: ds, _, 0, d, ⟨x, r, h1, h2, _⟩, h => by cases h; subst h1; exact ⟨x, rfl, h2⟩
  | d0 :: ds, _, m + 1, d, ⟨x, r, h1, _, h3⟩, h => by
    subst h1
    exact hvl_at (ds := ds) (xs := r) (m := m) h3 h
  | [], _, m, d, _, h => by cases m <;> cases h
end
end L2
namespace L2
open PySem PySem.Spec PyProof.Rows
section
variable {κ : Type} [DecidableEq κ]
def valV (kvs : List (κ × V)) (k : κ) : Option V := (kvs.find? fun kv => decide (kv.1 = k)).map (·.2)
def putK (kvs : List (κ × V)) (k : κ) (v : V) : List (κ × V) :=
  if (kvs.any fun kv => decide (kv.1 = k)) = true then kvs.map (fun kv => if kv.1 = k then (kv.1, v) else kv) else kvs ++ [(k, v)]
theorem valV_pos {p : κ × V} {r : List (κ × V)} {k : κ} (e : p.1 = k) : valV (p :: r) k = some p.2 := by simp [valV, List.find?_cons, e]
theorem valV_neg {p : κ × V} {r : List (κ × V)} {k : κ} (e : ¬ p.1 = k) : valV (p :: r) k = valV r k := by simp [valV, List.find?_cons, e]
theorem valV_any (k : κ) : ∀ kvs : List (κ × V), (kvs.any fun kv => decide (kv.1 = k)) = (valV kvs k).isSome
  | [] => rfl
  | p :: r => by
    rw [List.any_cons]
    by_cases e : p.1 = k
    · simp only [valV_pos e, decide_eq_true e, Bool.true_or, Option.isSome_some]
    · rw [valV_neg e, decide_eq_false e, Bool.false_or]; exact valV_any k r
theorem length_putK (kvs : List (κ × V)) (k : κ) (v : V) : (putK kvs k v).length ≤ kvs.length + 1 := by
  unfold putK
  split
  · rw [List.length_map]; omega
  · rw [List.length_append, List.length_cons, List.length_nil]; omega
theorem putK_new {kvs : List (κ × V)} {k : κ} (v : V) (h : valV kvs k = none) : putK kvs k v = kvs ++ [(k, v)] := by
  unfold putK
  rw [valV_any, h]
  exact if_neg (by decide)
theorem RelO.isSome_eq {o : Option V} {u : Option Value} (r : RelO o u) : o.isSome = u.isSome := by
  cases o with
  | none => cases u with
    | none => rfl
    | some _ => exact (show False from r).elim
  | some _ => cases u with
    | none => exact (show False from r).elim
    | some _ => rfl
theorem KV.val {kvs : List (κ × V)} {vs : List (κ × Value)} (r : KV kvs vs) (k : κ) : RelO (valV kvs k) (valueAt vs k) := by
  unfold KV at r
  induction r with
  | nil => exact True.intro
  | @cons p q ps qs h t ih =>
    obtain ⟨h1, h2⟩ := h
    by_cases e : p.1 = k
    · have e' : q.1 = k := h1.symm.trans e
      have b : valueAt (q :: qs) k = some q.2 := by simp [valueAt, List.find?_cons, e']
      rw [valV_pos e, b]; exact h2
    · have e' : ¬ q.1 = k := fun z => e (h1.trans z)
      have b : valueAt (q :: qs) k = valueAt qs k := by simp [valueAt, List.find?_cons, e']
      rw [valV_neg e, b]; exact ih
theorem KV.any {kvs : List (κ × V)} {vs : List (κ × Value)} (r : KV kvs vs) (k : κ) : (kvs.any fun kv => decide (kv.1 = k)) = vs.any fun kv => decide (kv.1 = k) := by
  unfold KV at r
  induction r with
  | nil => rfl
  | cons h t ih => rw [List.any_cons, List.any_cons, ih, h.1]
theorem KV.repl {kvs : List (κ × V)} {vs : List (κ × Value)} (r : KV kvs vs) (k : κ) {y : V} {u : Value} (ry : RelV y u) :
    KV (kvs.map fun kv => if kv.1 = k then (kv.1, y) else kv) (vs.map fun kv => if kv.1 = k then (kv.1, u) else kv) := by
  unfold KV at r ⊢
  induction r with
  | nil => exact .nil
  | @cons p q ps qs h t ih =>
    rw [List.map_cons, List.map_cons]
    refine .cons ?_ ih
    obtain ⟨h1, h2⟩ := h
    by_cases e : p.1 = k
    · rw [if_pos e, if_pos (h1.symm.trans e)]; exact ⟨h1, ry⟩
    · rw [if_neg e, if_neg (fun z => e (h1.trans z))]; exact ⟨h1, h2⟩
theorem KV.put {kvs : List (κ × V)} {vs : List (κ × Value)} (r : KV kvs vs) (k : κ) {y : V} {u : Value} (ry : RelV y u) : KV (putK kvs k y) (stored vs k u) := by
  unfold putK stored
  rw [r.any k]
  by_cases e : (vs.any fun kv => decide (kv.1 = k)) = true
  · rw [if_pos e, if_pos e]; exact r.repl k ry
  · rw [if_neg e, if_neg e]; exact Paired.snoc r ⟨rfl, ry⟩
theorem KV.length {kvs : List (κ × V)} {vs : List (κ × Value)} (r : KV kvs vs) : kvs.length = vs.length := Paired.length r
end
theorem kV_is {P : Program} {w : World} {k : Key} {u : Value} (r : RelV (kV k) u) : (mixKind P w).is k u = true := by
  cases k with
  | inl i => obtain ⟨t, e⟩ := (show ∃ t, u = Value.int i t from r); subst e; exact mixKind_int P w i t
  | inr x => obtain ⟨t, e⟩ := (show ∃ t, u = Value.str x t from r); subst e; exact mixKind_str P w x t
theorem items_are {P : Program} {w : World} : ∀ {ks : List Key} {us : List Value}, Vals (ks.map kV) us → ItemsAre (mixKind P w) ks us
  | [], _, r => by rw [List.map_nil] at r; cases r; exact .nil
  | k :: ks, _, r => by
    rw [List.map_cons] at r
    cases r with
    | cons h t => exact .cons (kV_is h) (items_are t)
abbrev KT (H : Hp) : List (List Key × V) → List (List Key × Addr × Value) → Prop := Paired fun p q => p.1 = q.1 ∧ H q.2.1 = some (.tup (p.1.map kV)) ∧ RelV p.2 q.2.2
theorem KT.val {H : Hp} {kvs : List (List Key × V)} {xs : List (List Key × Addr × Value)} (r : KT H kvs xs) (k : List Key) : RelO (valV kvs k) ((atKey xs k).map (·.2)) := by
  induction r with
  | nil => exact True.intro
  | @cons p q ps qs h t ih =>
    obtain ⟨h1, _, h2⟩ := h
    by_cases e : p.1 = k
    · have e' : q.1 = k := h1.symm.trans e
      have b : atKey (q :: qs) k = some q.2 := by simp [atKey, List.find?_cons, e']
      rw [valV_pos e, b]; exact h2
    · have e' : ¬ q.1 = k := fun z => e (h1.trans z)
      have b : atKey (q :: qs) k = atKey qs k := by simp [atKey, List.find?_cons, e']
      rw [valV_neg e, b]; exact ih
theorem KT.repl {H : Hp} {kvs : List (List Key × V)} {xs : List (List Key × Addr × Value)} (r : KT H kvs xs) (k : List Key) {y : V} {u : Value} (ry : RelV y u) :
    KT H (kvs.map fun kv => if kv.1 = k then (kv.1, y) else kv) (xs.map (putAt k u)) := by
  induction r with
  | nil => exact .nil
  | @cons p q ps qs h t ih =>
    rw [List.map_cons, List.map_cons]
    refine .cons ?_ ih
    obtain ⟨h1, h2, h3⟩ := h
    unfold putAt
    by_cases e : p.1 = k
    · rw [if_pos e, if_pos (h1.symm.trans e)]; exact ⟨h1, h2, ry⟩
    · rw [if_neg e, if_neg (fun z => e (h1.trans z))]; exact ⟨h1, h2, h3⟩
theorem KT.put {H : Hp} {kvs : List (List Key × V)} {xs : List (List Key × Addr × Value)} (r : KT H kvs xs) (k : List Key) {b : Addr} {y : V} {u : Value} (hb : H b = some (.tup (k.map kV))) (ry : RelV y u) :
    KT H (putK kvs k y) (storedH xs k b u) := by
  have e : (kvs.any fun kv => decide (kv.1 = k)) = (atKey xs k).isSome := by
    rw [valV_any, (r.val k).isSome_eq, Option.isSome_map]
  unfold putK storedH
  rw [e]
  by_cases q : (atKey xs k).isSome = true
  · rw [if_pos q, if_pos q]; exact r.repl k ry
  · rw [if_neg q, if_neg q]; exact Paired.snoc r ⟨rfl, hb, ry⟩
theorem KT.keeps {H H' : Hp} {kvs : List (List Key × V)} {xs : List (List Key × Addr × Value)} (r : KT H kvs xs) (ht : ∀ b ys, H b = some (.tup ys) → H' b = some (.tup ys)) : KT H' kvs xs :=
  Paired.mapP r fun _ _ z => ⟨z.1, ht _ _ z.2.1, z.2.2⟩
section
variable {P : Program} {w : World} {H : Hp} {h : Heap} {a : Addr}
theorem rd_of {u : HO} (ok : HOk P w H h) (e : Rd H a u) : ObjOk P w H h a u := e.ok ok
theorem dk_rd {kvs : List (Key × V)} (ok : HOk P w H h) (e : Rd H a (.dK kvs)) : kvs.length ≤ sizeLine ∧ (a == sysModules) = false ∧ ∃ vs, KV kvs vs ∧ h.DictOf (mixKind P w) a vs :=
  show ObjOk P w H h a (.dK kvs) from rd_of ok e
theorem dk_of {kvs : List (Key × V)} (ok : HOk P w H h) (e : H a = some (.dK kvs)) : kvs.length ≤ sizeLine ∧ (a == sysModules) = false ∧ ∃ vs, KV kvs vs ∧ h.DictOf (mixKind P w) a vs := dk_rd ok (.inl e)
theorem key_of {ks : List Key} (ok : HOk P w H h) (e : H a = some (.tup (ks.map kV))) : (tupleKind (mixKind P w)).is h ks a := by
  obtain ⟨_, its, r, o, h1, h2, n, h3⟩ := (show ObjOk P w H h a (.tup (ks.map kV)) from ok a _ e)
  exact ⟨o, its.toArray, n, h1, h2, h3, by simpa using items_are r⟩
theorem dt_rd {kvs : List (List Key × V)} (ok : HOk P w H h) (e : Rd H a (.dT kvs)) : kvs.length ≤ sizeLine ∧ (a == sysModules) = false ∧
    ∃ xs, KT H kvs xs ∧ h.DictOfH (tupleKind (mixKind P w)) a xs := by
  obtain ⟨z, y, xs, r, o, es, ep, h1, h2, h3, h4, h5⟩ := (show ObjOk P w H h a (.dT kvs) from rd_of ok e)
  refine ⟨z, y, xs, r, o, es, ep, h1, h2, h3, h4, fun x hx => ?_, h5⟩
  have all : ∀ {l : List (List Key × V)} {m : List (List Key × Addr × Value)}, KT H l m → ∀ x ∈ m, (tupleKind (mixKind P w)).is h x.1 x.2.1 := by
    intro l m q
    induction q with
    | nil => intro x hx; exact nomatch hx
    | @cons p q ps qs hq t ih =>
      intro x hx
      rcases List.mem_cons.mp hx with e | hx
      · subst e
        exact key_of ok (by rw [← hq.1]; exact hq.2.1)
      · exact ih x hx
  exact all r x hx
theorem dt_of {kvs : List (List Key × V)} (ok : HOk P w H h) (e : H a = some (.dT kvs)) : kvs.length ≤ sizeLine ∧ (a == sysModules) = false ∧
    ∃ xs, KT H kvs xs ∧ h.DictOfH (tupleKind (mixKind P w)) a xs := dt_rd ok (.inl e)
end
def DGet (H : Hp) (a : Addr) (y : V) (r : Option V) : Prop :=
  (∃ kvs k, Rd H a (.dK kvs) ∧ y = kV k ∧ r = valV kvs k) ∨ ∃ kvs k b, Rd H a (.dT kvs) ∧ y = .ref b ∧ H b = some (.tup (k.map kV)) ∧ r = valV kvs k
def DPut (H : Hp) (a : Addr) (y v : V) (H' : Hp) : Prop :=
  (∃ kvs k, H a = some (.dK kvs) ∧ y = kV k ∧ kvs.length < sizeLine ∧ H' = upd H a (.dK (putK kvs k v))) ∨
  ∃ kvs k b, H a = some (.dT kvs) ∧ y = .ref b ∧ H b = some (.tup (k.map kV)) ∧ kvs.length < sizeLine ∧ H' = upd H a (.dT (putK kvs k v))
theorem DGet.k {H : Hp} {a : Addr} {kvs : List (Key × V)} {k : Key} (e : H a = some (.dK kvs)) : DGet H a (kV k) (valV kvs k) := .inl ⟨kvs, k, .inl e, rfl, rfl⟩
theorem DPut.k {H : Hp} {a : Addr} {kvs : List (Key × V)} {k : Key} {v : V} (e : H a = some (.dK kvs)) (hl : kvs.length < sizeLine) : DPut H a (kV k) v (upd H a (.dK (putK kvs k v))) := .inl ⟨kvs, k, e, rfl, hl, rfl⟩
section
variable {X : Cx} {pins : List (Addr × Obj)} {σ : St} {H : Hp} {s : Shared} {a : Addr} {y v : V} {u r : Value} {o : Option V} {A : Around} {E : Value → Shared → Prop}
theorem Inv.big (I : Inv X pins σ H s) : sysModules < s.heap.objs.size := by
  have h : mainGlobals < s.heap.objs.size := (I.mod.glob.keeps I.bk).lt
  exact Nat.lt_trans (by decide) h
theorem d_notIn {Q : Value → Shared → Prop} (hu : A.units + 1 < cLine) (I : Inv X pins σ H s) (g : DGet H a y o) (ry : RelV y u) (h : ∀ s', Inv X pins σ H s' → Q (.bool (!o.isSome)) s') :
    wpAny (model X.prog X.w) A (compareOp .NotIn u (.ref a)) Q E s := by
  rcases g with ⟨kvs, k, e, ey, l⟩ | ⟨kvs, k, b, e, ey, eb, l⟩
  · subst ey
    obtain ⟨z, hd, vs, rel, dd⟩ := dk_rd I.hok e
    refine wpAny_notIn_of (kV_is ry) hd dd.mapOf ?_
    rw [← (rel.val k).isSome_eq, ← l]
    exact h _ (I.tok _)
  · subst ey
    cases (show u = Value.ref b from ry)
    obtain ⟨z, hd, xs, rel, dd⟩ := dt_rd I.hok e
    refine wpAny_notIn_heap (tupleKind_room_in1 hu) (key_of I.hok eb) hd dd ?_
    have q := (rel.val k).isSome_eq
    rw [Option.isSome_map] at q
    rw [← q, ← l]
    exact h _ (I.tok _)
theorem d_write {h' : Heap} {t' : Nat} {ob : HO} (I : Inv X pins σ H s) (mu : Mut (H a)) (hs : Heap.SameBut a s.heap h') (he : ∃ q, h'.get? a = some q) (new : ObjOk X.prog X.w (upd H a ob) h' a ob) :
    Inv X pins σ (upd H a ob) { s with heap := h', toks := t' } :=
  I.write (x := a) (e := a) mu (.inl rfl) (fun b q hb z => (hs.2 b hb).trans z) he new
theorem dk_new {P : Program} {w : World} {H' : Hp} {h' : Heap} {kvs : List (Key × V)} {vs : List (Key × Value)} (z : kvs.length ≤ sizeLine) (hd : (a == sysModules) = false) (rel : KV kvs vs) (dd : h'.DictOf (mixKind P w) a vs) :
    ObjOk P w H' h' a (.dK kvs) := ⟨z, hd, vs, rel, dd⟩
theorem d_setItem {H' : Hp} {Q : Unit → Shared → Prop} (hu : A.units + 1 < cLine) (I : Inv X pins σ H s) (g : DPut H a y v H') (ry : RelV y u) (rv : RelV v r) (h : ∀ s', Inv X pins σ H' s' → Q () s') :
    wpAny (model X.prog X.w) A (setItem (.ref a) u r) Q E s := by
  rcases g with ⟨kvs, k, e, ey, l, eH⟩ | ⟨kvs, k, b, e, ey, eb, l, eH⟩
  · subst ey eH
    obtain ⟨z, hd, vs, rel, dd⟩ := dk_of I.hok e
    have hz : vs.length ≤ sizeLine := by rw [← rel.length]; exact z
    have hl : (putK kvs k v).length ≤ sizeLine := by have := length_putK kvs k v; omega
    refine wpAny_setItem_pairs (hsz := hz) (kV_is ry) dd fun h' dd' hs => h _ ?_
    have he : ∃ q, h'.get? a = some q := let ⟨q, _, _, hq, _⟩ := dd'; ⟨q, hq⟩
    exact d_write I (by rw [e]; exact True.intro) hs he (dk_new hl hd (rel.put k rv) dd')
  · subst ey eH
    cases (show u = Value.ref b from ry)
    obtain ⟨z, hd, xs, rel, dd⟩ := dt_of I.hok e
    have hz : xs.length ≤ sizeLine := by rw [← Paired.length rel]; exact z
    have hl : (putK kvs k v).length ≤ sizeLine := by have := length_putK kvs k v; omega
    refine wpAny_setItem_heap (hsz := hz) (tupleKind_room_in1 hu) (key_of I.hok eb) dd fun h' dd' hs => h _ ?_
    obtain ⟨q, es, ep, hq, h2, h3, h4, _, h5⟩ := dd'
    refine d_write I (by rw [e]; exact True.intro) hs ⟨q, hq⟩ ⟨hl, hd, _, (rel.put k eb rv).keeps fun c ys ec => ?_, q, es, ep, hq, h2, h3, h4, h5⟩
    rw [upd_ne (ne_of ec e (fun z => nomatch z))]
    exact ec
end
section
variable {X : Cx} {pins : List (Addr × Obj)} {σ : St} {H : Hp} {s : Shared} {a : Addr} {kvs : List (Key × V)} {k : Key} {u : Value} {A : Around} {E : Value → Shared → Prop}
end
def tDNotIn (ty td : TE) : TE := fun σ H Q => ty σ H fun y H1 => td σ H1 fun x H2 => ∃ a o, x = .ref a ∧ DGet H2 a y o ∧ Q (.bl (!o.isSome)) H2
def sDPut (td ty tv : TE) : TS := fun D σ H => tv σ H fun v H1 => td σ H1 fun x H2 => ty σ H2 fun y H3 => ∃ a H4, x = .ref a ∧ DPut H3 a y v H4 ∧ D.nx σ H4
section
variable {X : Cx} {o i e value : Expr} {pos pos' tpos : Pos} {td ty tv : TE}
theorem pc_dnotin (hu : X.A.units + 1 < cLine) (hi : PE X i ty) (ho : PE X o td) : PC X .NotIn i o (tDNotIn ty td) := by
  intro pins s σ H Q I h
  refine thn (hi pins s σ H _ I h) fun iv s1 ⟨y, H1, I1, ry, q1⟩ => thn (ho pins s1 σ H1 _ I1 q1) fun u s2 ⟨x, H2, I2, rx, a, ov, ex, g, q2⟩ => ?_
  subst ex
  obtain rfl : u = Value.ref a := rx
  exact d_notIn hu I2 g ry fun s3 I3 => ⟨.bl (!ov.isSome), H2, I3, rfl, q2⟩
theorem ps_dput (hu : X.A.units + 1 < cLine) (ho : PE X o td) (hi : PE X i ty) (hv : PE X value tv) (hs : swapsWith value (some (.Subscript o i pos')) pos.line X.env = pure false) :
    PS X (.Assign [.Subscript o i pos'] value pos) (sDPut td ty tv) := by
  intro pins s σ H D I h
  refine wpAny_Assign_Subscript (thn (hv pins s σ H _ I h) fun r s1 ⟨v, H1, I1, rv, q1⟩ => thn (ho pins s1 σ H1 _ I1 q1) fun u s2 ⟨x, H2, I2, rx, q2⟩ => thn (hi pins s2 σ H2 _ I2 q2) fun iv s3 ⟨y, H3, I3, ry, a, H4, ex, g, q3⟩ => ?_) hs
  subst ex
  obtain rfl : u = Value.ref a := rx
  exact d_setItem hu I3 g ry rv fun s4 I4 => ⟨σ, H4, I4, q3⟩
end
theorem dk_empty {P : Program} {w : World} {H : Hp} (h : Heap) (hb : sysModules < h.objs.size) : ObjOk P w H (h.push { cls := .type "dict", data := .dict #[] }) h.objs.size (.dK []) :=
  ⟨Nat.zero_le _, beq_eq_false_iff_ne.mpr (Ne.symm (Nat.ne_of_lt hb)), [], .nil, Heap.DictOf.new h⟩
def tDNewK : TE := fun _ H Q => ∀ p, H p = none → Q (.ref p) (upd H p (.dK []))
section
variable {X : Cx} {pos : Pos}
theorem pe_dnewK : PE X (.Dict [] [] pos) tDNewK := fun pins s σ H Q I h =>
  wpAny_Dict_empty ⟨.ref s.heap.objs.size, _, I.laid (a := s.heap.objs.size) (o := .dK []) (t' := s.toks) (fun _ _ q => Heap.get?_push_of_some _ q) (Nat.le_refl _) (dk_empty s.heap I.big), rfl, h _ (I.hok.fresh (Nat.le_refl _))⟩
end
section
variable {X : Cx} {pins : List (Addr × Obj)} {σ : St} {H : Hp} {s : Shared} {a : Addr} {y d : V} {u r : Value} {o : Option V} {A : Around} {E : Value → Shared → Prop}
end
section
variable {X : Cx} {o e f : Expr} {apos cpos : Pos} {td ty tx : TE}
end
section
variable {X : Cx} {pins : List (Addr × Obj)} {σ : St} {H : Hp} {s : Shared} {a : Addr} {kvs : List (Key × V)} {A : Around} {E : Value → Shared → Prop}
end
section
variable {X : Cx} {pins : List (Addr × Obj)} {σ : St} {H : Hp} {s : Shared} {a : Addr} {y : V} {u : Value} {A : Around} {E : Value → Shared → Prop}
end
end L2
namespace L2
open PySem PySem.Spec PyProof.Rows
section
variable {ι : Type} {F : Fam ι} {e a b c : Expr} {ρ : En} {t ta tb' : Tr} {pos : Pos}
theorem ev_countF {v : V} {vs : List V} {o : Expr} {to : Tr} (ho : Ev F o ρ to) (eo : er to = .lst (vs.map .fl)) (ha : Ev F e ρ (.fz (.fl v))) {apos : Pos}
    (hbase : ∀ i, attributeBase o "count" (F.cx i).env (eval o (F.cx i).env) = eval o (F.cx i).env := by intro _; rfl)
    (hfew : ∀ i, ((backTo pos (starEach [e] (F.cx i).env)).all (fun x => !x.1) && (backToKw pos (keywordEach [] (F.cx i).env)).all (fun x => x.1.isSome) && decide (([e] : List Expr).length + ([] : List Keyword).length + (if ([] : List Keyword).isEmpty then 0 else 1) < 30)) = true := by intro _; rfl)
    (hline : (apos.endLine == pos.line) = true := by rfl) (hs : ∀ i, starEach [e] (F.cx i).env = [(false, eval e (F.cx i).env)] := by intro _; rfl) : Ev F (.Call (.Attribute o "count" apos) [e] [] pos) ρ (ti (vs.countP fun z => eqV z v : Nat)) :=
  ev_bm (r := rCount F.K) PySem.F.slot_list_count PySem.F.type_list_count (fun i => F.hK i ▸ mt_count) ho eo (eva_cons ha eva_nil hs) (fun G H x vs' Q s hx hv k => by
    rw [eo] at hx
    obtain ⟨l, us, rfl, h1, h2⟩ := hx
    obtain ⟨rfl, hf⟩ := hvl_flat h2
    obtain ⟨y, rfl, hy⟩ := hvl1 hv
    refine ⟨l, _, y, rfl, rfl, s.seq h1, by rw [hy.1]; exact hy.2, hf, ?_⟩
    rw [hy.1]
    exact k.sc s rfl) hbase hfew hline hs (fun _ => rfl)
theorem et_eqF {u v : V} (ha : Ev F a ρ (.fz (.fl u))) (hb : Ev F b ρ (.fz (.fl v))) (hs : scal u v = true) : Et F (.Compare a [.Eq] [b] pos) ρ (decide (u = v)) :=
  et_cmp (fun _ => op_eq) ha hb (fun G H x y Q s hx hy k => by rw [hvi hx, hvi hy]; exact ⟨hs, k⟩) (nomark _)
end
theorem for_enum {K : PySem.W.Frag} {l : Addr} {xs : List V} {g : TG} {tb : TS} {D : Ends} {σ : St} {H : Hp} (Pv : Nat → St → Hp → Prop) (h0 : Pv 0 σ H) (hl : ∀ i σ H, i ≤ xs.length → Pv i σ H → SqL K H l xs)
    (hs : ∀ i x σ H T, xs[i]? = some x → Pv i σ H → H T = none → g (.ref T) σ (upd H T (.tup [.int (i : Nat), x])) fun σ2 H2 => tb { D with nx := Pv (i + 1), ct := Pv (i + 1), bk := D.nx } σ2 H2) (hd : ∀ σ H, Pv xs.length σ H → D.nx σ H) :
    ∃ W : Nat → Nat → St → Hp → Prop, (∃ m, W 0 m σ H) ∧ ∀ i m σ H, W i m σ H →
      ((Ite K l xs).stop i H ∧ D.nx σ H) ∨ ((Ite K l xs).go i H ∧ ∃ N : St → Hp → Prop, (∀ σ' H', N σ' H' → ∃ m', m' < m ∧ W (i + 1) m' σ' H') ∧ ∀ x H', (Ite K l xs).yld i H x H' → g x σ H' fun σ2 H2 => tb { D with nx := N, ct := N, bk := D.nx } σ2 H2) := by
  refine ⟨fun i m σ H => m = xs.length - i ∧ i ≤ xs.length ∧ Pv i σ H, ⟨xs.length, by simp, Nat.zero_le _, h0⟩, ?_⟩
  rintro i m σ H ⟨rfl, hi, p⟩
  have q := hl i σ H hi p
  by_cases hlt : i < xs.length
  · refine .inr ⟨⟨q, hlt⟩, Pv (i + 1), fun σ' H' p' => ⟨xs.length - (i + 1), by omega, rfl, hlt, p'⟩, fun x H' y => ?_⟩
    obtain ⟨T, v, hT, hv, rfl, rfl⟩ := y
    exact hs i v σ H T hv p hT
  · have e : i = xs.length := by omega
    subst e
    exact .inl ⟨⟨q, rfl⟩, hd σ H p⟩
end L2
namespace L2
open PySem PySem.Spec PyProof.Rows
section
variable {X : Cx}
def sK (s : List Int) : List (Key × V) := s.map fun x => (.inl x, .bl true)
theorem kv_ints {prog : Program} {w : World} : ∀ {s : List Int} {vs : List (Key × Value)}, KV (sK s) vs → vs.length = s.length ∧ ∀ (i : Nat) (k : Key) (x : Value), vs[i]? = some (k, x) → ∃ n, s[i]? = some n ∧ k = .inl n
  | [], vs, h => by
    cases h
    exact ⟨rfl, fun i k x hx => by cases i <;> cases hx⟩
  | n :: s, vs, h => by
    cases h with
    | cons r t =>
      obtain ⟨h1, h2⟩ := kv_ints (prog := prog) (w := w) t
      refine ⟨by rw [List.length_cons, h1]; rfl, fun i k x hx => ?_⟩
      cases i with
      | zero =>
        have e : _ = (k, x) := Option.some.inj hx
        refine ⟨n, rfl, ?_⟩
        have := r.1
        rw [e] at this
        exact this.symm
      | succ i => exact h2 i k x hx
theorem ints_of_at : ∀ {vs : List Value} {ns : List Int}, vs.length = ns.length → (∀ (j : Nat) (v : Value), vs[j]? = some v → ∃ n t, ns[j]? = some n ∧ v = .int n t) → IntsAre vs ns
  | [], [], _, _ => .nil
  | [], _ :: _, h, _ => by cases h
  | _ :: _, [], h, _ => by cases h
  | v :: vs, n :: ns, h, hv => by
    obtain ⟨m, t, e1, e2⟩ := hv 0 v rfl
    cases e1
    rw [e2]
    exact .cons _ _ (ints_of_at (by simpa using h) fun j u hu => hv (j + 1) u hu)
theorem call_sortedD (hc : X.calm = true) : CallR X (.builtin "sorted") (fun xs H Q => ∃ (p : Addr) (ks : List Int), xs = [.ref p] ∧ H p = some (.dK (sK ks)) ∧ ks.length < 64 ∧ ∀ (l : Addr) (ms : List Int), H l = none → ms.Perm ks → ms.Pairwise (· ≤ ·) → Q (.ref l) (upd H l (.lst (ms.map V.int)))) := by
  intro pins s σ H xs us Q I r h
  obtain ⟨p, ks, rfl, hp, hz, q⟩ := h
  obtain ⟨u, rfl, rx⟩ := vals1 r
  cases rx
  obtain ⟨_, hS, vs, rKV, hD⟩ : (sK ks).length ≤ sizeLine ∧ (p == sysModules) = false ∧ ∃ vs, KV (sK ks) vs ∧ s.heap.DictOf (mixKind X.prog X.w) p vs := I.hok p _ hp
  obtain ⟨hl, hkv⟩ := kv_ints (prog := X.prog) (w := X.w) rKV
  obtain ⟨ep, hat⟩ := hD.dictAt
  have big : 1000 < sizeLine := by decide
  refine Calls.call_function_entry kind_sorted plain_sorted entry_sorted (args_sorted1 _) ?_
  unfold Builtin.«sorted»
  refine wpAny_bind (m := checkCount "sorted" 1 1 _) (wpAny_pure ?_)
  refine wpAny_bind (PySem.W.kdu_collect (A := X.A.in1) (PySem.W.kdl_dict (knd := mixKind X.prog X.w) (kvs := vs) (ep := ep) hS) (I.ok.hd hc) hat (by rw [hl]; omega) fun h' tk acc hk hacc => ?_)
  have ha : acc.toList.length = ks.length := by rw [Array.length_toList, hacc.1, hl]
  have hI : IntsAre acc.toList ks := ints_of_at ha fun j v hv => by
    obtain ⟨k, x, hx, hkx⟩ := hacc.2 j v (by rw [← Array.getElem?_toList]; exact hv)
    obtain ⟨n, hn, rfl⟩ := hkv j k x hx
    rw [mixKind_is] at hkx
    rcases keyIs_shape hkx with ⟨i, t, e1, e2⟩ | ⟨y, t, e1, e2⟩
    · cases e1
      exact ⟨n, t, hn, e2⟩
    · cases e1
  refine wpAny_bind (wpAny_newList ?_ (by rw [ha]; omega))
  have hoL : (h'.push (seqObj "list" acc.toList.toArray 0)).get? h'.objs.size = some (seqObj "list" acc.toList.toArray 0) := Heap.get?_push_size _ rfl
  refine wpAny_bind (wpAny_holding (wpAny_call_entry slot_list_sort ⟨_, hoL, rfl⟩ entry_list_sort (list_sort_tree (s := { s with heap := h'.push (seqObj "list" acc.toList.toArray 0), toks := tk }) hoL hI (by rw [ha]; exact hz) fun out ns' a1 a2 a3 => ⟨_, rfl, ?_⟩) (args_list_sort _)))
  refine wpAny_pure ⟨_, rfl, ?_⟩
  obtain ⟨e, he⟩ := sortedHeap_at (out := out) hoL
  have I1 : Inv X pins σ H { s with heap := h', toks := tk } := I.kept (t' := tk) hk
  refine ⟨.ref h'.objs.size, _, I1.laid (t' := tk) (o := .lst (ns'.map V.int)) (fun b o eb => ?_) (Nat.le_refl _) ?_, rfl, q _ ns' (I1.hok.fresh (Nat.le_refl _)) a2 a3⟩
  · have lt : b < h'.objs.size := Heap.lt_size eb
    rw [sortedHeap_old (Nat.ne_of_lt lt) (by rw [size_push']; exact Nat.lt_succ_of_lt lt), Heap.get?_push_ne _ _ _ (Nat.ne_of_lt lt)]
    exact eb
  · exact ⟨by rw [List.length_map, a2.length_eq]; omega, out.toList, e, vals_ints a1, by rw [Array.toArray_toList]; exact he⟩
end
theorem OwL.get {K : PySem.W.Frag} {G H : Hp} : ∀ {ts : List Tr} {vs : List V} {fp : List Addr} {n : Nat} {t : Tr}, OwL K G H ts vs fp → ts[n]? = some t → ∃ v fq, vs[n]? = some v ∧ Ow K G H t v fq ∧ (∀ a ∈ fq, a ∈ fp) ∧ (fp.Nodup → fq.Nodup)
  | [], _, _, n, _, _, h => by cases n <;> cases h
  | t0 :: ts, vs, fp, 0, t, ⟨v, r, f1, f2, h1, h2, h3, h4⟩, h => by
    cases h
    subst h1 h2
    exact ⟨v, f1, rfl, h3, fun a ha => List.mem_append_left _ ha, fun nd => (List.nodup_append.mp nd).1⟩
  | t0 :: ts, vs, fp, n + 1, t, ⟨v, r, f1, f2, h1, h2, h3, h4⟩, h => by
    subst h1 h2
    obtain ⟨u, fq, g1, g2, g3, g4⟩ := OwL.get (n := n) h4 h
    exact ⟨u, fq, g1, g2, fun a ha => List.mem_append_right _ (g3 a ha), fun nd => g4 (List.nodup_append.mp nd).2.1⟩
theorem ev_ixO {ι : Type} {F : Fam ι} {a b : Expr} {ρ : En} {pos : Pos} {ts : List Tr} {n : Nat} {t : Tr} (ha : Ev F a ρ (.tp ts)) (hb : Ev F b ρ (ti (n : Nat))) (hk : ts[n]? = some t) (hs : PlainIx b := by exact fun _ _ => rfl) : Ev F (.Subscript a b pos) ρ t := by
  obtain ⟨τ, p, q⟩ := ha
  obtain ⟨τ', p', q'⟩ := hb.use
  refine ⟨tOp (rIxT F.K) τ τ', fun i => pe_ix (ix_tupK (F.hK i)) (p i) (p' i) hs, fun σ G H Q s rr k => ?_⟩
  refine q σ G H _ s rr fun x G1 H1 f1 s1 o1 w1 => q' σ G1 H1 _ s1.s (rr.mono s1.g) fun y G2 H2 s2 hy => ?_
  obtain ⟨l, vs, fq, rfl, hl, ol, rfl⟩ := o1
  obtain ⟨v, f3, g1, g2, g3, g4⟩ := ol.get hk
  have d2 := (List.nodup_cons.mp w1.d).2
  have th := g2.there
  refine ⟨l, vs, _, v, rfl, hvi hy, SqT.of (s2.h _ _ hl), atI_nat g1, k v G2 H2 f3 (s1.trans s2) (g2.mono s2.g s2.h) ⟨fun a ha => w1.n a (.tail _ (g3 a ha)), fun a ha => ?_, g4 d2⟩⟩
  cases z : G2 a with
  | none => rfl
  | some o =>
    obtain ⟨u, hu⟩ := th a ha
    have := s2.n a (w1.g a (.tail _ (g3 a ha))) (by rw [z]; exact fun y => nomatch y)
    rw [hu] at this; cases this
theorem EtS.to {ι : Type} {F : Fam ι} {e : Expr} {ρ : En} {p q : Bool} (h : EtS F e ρ p) (z : p = q) : EtS F e ρ q := z ▸ h
theorem Rns.to {ι : Type} {F : Fam ι} {sts : List Stmt} {ρ : En} {o o' : Out} (h : Rns F sts ρ o) (z : o = o') : Rns F sts ρ o' := z ▸ h
section
variable {ι : Type} {F : Fam ι} {a : Expr} {ρ : En} {pos : Pos} {ta : Tr}
end
end L2
namespace L2
open PySem PySem.Spec PyProof.Rows
theorem rn_lstset {ι : Type} {F : Fam ι} {e : Expr} {ρ : En} {t : Tr} {pos : Pos} (j ji jn : Nat) {x xi xn : Str} {ts us : List Tr} {n1 n : Int} {i m : Nat} {p1 p2 p3 p4 p5 : Pos} (h : ρ[j]? = some (some (.ow ts))) (hji : ρ[ji]? = some (some (ti n1))) (hjn : ρ[jn]? = some (some (ti n))) (hmi : ixN ts.length n1 = some i) (hi : ts[i]? = some (.ow us)) (hm : ixN us.length n = some m) (he : EvS F e ρ t)
    (hps : ∀ i', PG (F.cx i') (.Subscript (.Subscript (.Name x p1) (.Name xi p4) p3) (.Name xn p5) p2) (gSub (tOp (rIxL F.K) (tVar j) (tVar ji)) (tVar jn) rSetL))
    (hs : ∀ i', swapsWithSole [.Subscript (.Subscript (.Name x p1) (.Name xi p4) p3) (.Name xn p5) p2] e pos.line (F.cx i').env = pure false := by intro _; rfl) (hw : ∀ i', swappedStores [.Subscript (.Subscript (.Name x p1) (.Name xi p4) p3) (.Name xn p5) p2] e (F.cx i').env = pure none := by intro _; rfl)
    (h1 : ∀ i', (assignEach [.Subscript (.Subscript (.Name x p1) (.Name xi p4) p3) (.Name xn p5) p2] (F.cx i').env).map (·.2) = [assign (.Subscript (.Subscript (.Name x p1) (.Name xi p4) p3) (.Name xn p5) p2) (F.cx i').env] := by intro _; rfl) :
    Rn F (.Assign [.Subscript (.Subscript (.Name x p1) (.Name xi p4) p3) (.Name xn p5) p2] e pos) ρ (.nx (ρ.set j (some (.ow (ts.set i (.ow (us.set m t))))))) := by
  obtain ⟨τ, y, z⟩ := he
  refine ⟨tAsg τ (gSub (tOp (rIxL F.K) (tVar j) (tVar ji)) (tVar jn) rSetL), fun i' => ps_asg (y i') (hps i') (hs i') (hw i') (h1 i'), fun D σ G0 H0 G H r k => ?_⟩
  obtain ⟨fp, r⟩ := r
  refine z σ G H fp _ r.st.s r.own r.g fun v1 G1 H1 f1 s1 o1 w1 => ?_
  obtain ⟨vi, hvi', hvi2⟩ := r.own.rpd ji _ hji
  obtain ⟨vn, hvn', hvn2⟩ := r.own.rpd jn _ hjn
  obtain ⟨v2, f2', d1, d2, d3, dn, d5, d7⟩ := r.chg h s1
  obtain ⟨l2, vs2, fq2, rfl, hl2, ol2, rfl⟩ := d3
  have ndq := List.nodup_cons.mp dn
  obtain ⟨l, xs, fw, g1, g2, g3, g4, g5, g6, g7, g8⟩ := ol2.child hi ndq.2
  have ex : atI vs2 n1 = some (.ref l) := by
    unfold atI
    rw [← ol2.length, hmi]
    exact g1
  have hm' : m < us.length := (ixN_seq hm).2.1
  have nf1 : ∀ a ∈ f1, a ∉ fp := fun a ha hb => by
    obtain ⟨u, hu⟩ := r.own.there a hb
    rw [w1.n a ha] at hu; cases hu
  obtain ⟨fw', q1, q2, q3⟩ := g4.setAt hm' o1 g6 w1.d fun a ha z => nf1 a ha (d5 a (.tail _ (g5 a z)))
  obtain ⟨fq', b1, b2, b3⟩ := g8 (us.set m t) (xs.set m v1) fw' q1 q2 (fun a ha => (q3 a ha).imp id fun z z' => nf1 a z (d5 a (.tail _ z'))) (fun z => (q3 _ z).elim g7 fun z => nf1 _ z (d5 _ (.tail _ g2)))
  have l0q : l2 ∉ fq' := fun z => by
    rcases b3 l2 z with z | z
    · exact ndq.1 z
    · rcases q3 l2 z with z | z
      · exact ndq.1 (g5 _ z)
      · exact nf1 _ z (d5 _ (.head _))
  have lne : l2 ≠ l := fun z => ndq.1 (z ▸ g2)
  refine ⟨_, d1, _, hvi', l2, vs2, n1, .ref l, rfl, hvi hvi2, SqL.of hl2, ex, _, hvn', l, xs, n, m, rfl, hvi hvn2, g3, by rw [← g4.length]; exact hm, k σ G1 _ (d7 l (.lst (xs.set m v1)) (.ow (ts.set i (.ow (us.set m t)))) (l2 :: fq') (.tail _ g2) ⟨l2, _, fq', rfl, by rw [upd_ne lne]; exact hl2, b1, rfl⟩ (List.nodup_cons.mpr ⟨l0q, b2⟩) fun a ha => ?_)⟩
  rcases List.mem_cons.mp ha with z | z
  · exact .inl (z ▸ .head _)
  · rcases b3 a z with z | z
    · exact .inl (.tail _ z)
    · rcases q3 a z with z | z
      · exact .inl (.tail _ (g5 a z))
      · exact .inr ⟨w1.n a z, w1.g a z⟩
theorem RSf.wrap2 {K : PySem.W.Frag} {G0 H0 G H G1 H1 : Hp} {ρ : En} {σ : St} {fp : List Addr} {j : Nat} {t : Tr} {d : Dv} {va : V} {p : Addr} (r : RSf K G0 H0 G H ρ σ fp) (hj : ρ[j]? = some (some t)) (s1 : Step G H G1 H1) (hp : H1 p = none) (hv : Hv K G1 d va) :
    ∃ v, σ[j]? = some (some v) ∧ RS K G0 H0 G1 (upd H1 p (.tup [va, v])) (ρ.set j (some (.tp [.fz d, t]))) (σ.set j (some (.ref p))) := by
  obtain ⟨v, f, fr, q1, q2, q3, q4⟩ := r.own.split hj
  have nda := List.nodup_append.mp (q4.nodup_iff.mp r.d)
  have qfp : ∀ a ∈ f, a ∈ fp := fun a ha => q4.mem_iff.mpr (List.mem_append_left _ ha)
  have rfp : ∀ a ∈ fr, a ∈ fp := fun a ha => q4.mem_iff.mpr (List.mem_append_right _ ha)
  have off := r.own.off s1 r.g
  have pfp : p ∉ fp := fun z => by
    obtain ⟨u, hu⟩ := r.own.there p z
    rw [s1.h _ _ hu] at hp; cases hp
  have lt : j < ρ.length := by
    rcases Nat.lt_or_ge j ρ.length with z | z
    · exact z
    · rw [List.getElem?_eq_none z] at hj; cases hj
  have own : Ow K G1 (upd H1 p (.tup [va, v])) (.tp [.fz d, t]) (.ref p) (p :: ([] ++ (f ++ []))) :=
    ⟨p, _, _, rfl, upd_same, ⟨va, _, [], _, rfl, rfl, ⟨rfl, hv⟩, v, _, f, [], rfl, rfl, (q2.mono s1.g s1.h).frame (fun z => pfp (qfp p z)), rfl, rfl⟩, rfl⟩
  obtain ⟨fp', p1, p2⟩ := ((q3.mono s1.g s1.h).frame (o := .tup [va, v]) (fun z => pfp (rfp p z))).put (get_set_none lt) own
  rw [List.set_set] at p1
  have mem : ∀ a ∈ fp', a = p ∨ a ∈ f ∨ a ∈ fr := fun a ha => by
    have := p2.mem_iff.mp ha
    simp at this
    rcases this with z | z | z
    · exact .inl z
    · exact .inr (.inl z)
    · exact .inr (.inr z)
  refine ⟨v, q1, fp', r.st.trans (s1.trans (.newO s1.s hp)), p1, fun a ha => ?_, fun a ha => ?_, ?_⟩
  · rcases mem a ha with rfl | z | z
    · exact s1.s.free hp
    · exact off a (qfp a z)
    · exact off a (rfp a z)
  · rcases mem a ha with rfl | z | z
    · exact r.st.h.free (s1.h.free hp)
    · exact r.n a (qfp a z)
    · exact r.n a (rfp a z)
  · refine p2.nodup_iff.mpr ?_
    simp only [List.nil_append, List.append_nil, List.cons_append, List.append_assoc]
    refine List.nodup_cons.mpr ⟨fun z => ?_, List.nodup_append.mpr ⟨nda.1, nda.2.1, fun a ha b hb e => nda.2.2 a ha b hb e⟩⟩
    rcases List.mem_append.mp z with z | z
    · exact pfp (qfp p z)
    · exact pfp (rfp p z)
theorem rn_append2 {ι : Type} {F : Fam ι} {e : Expr} {ρ : En} {pos : Pos} (j jb : Nat) {x xb : Str} {us : List Tr} {t : Tr} {d : Dv} {p1 p2 p3 pb pt : Pos} {kt} (hjb : j ≠ jb) (h : ρ[j]? = some (some (.ow us))) (hb : ρ[jb]? = some (some t)) (he : EvS F e ρ (.fz d)) (hz : us.length < sizeLine)
    (hps : ∀ i τ, PE (F.cx i) e τ → PS (F.cx i) (.Expr (.Call (.Attribute (.Name x p1) "append" p2) [.Tuple [e, .Name xb pb] kt pt] [] p3) pos) (tDrop (tBM F.K "list" rAppend (tVar j) (tCons (tTup (tCons τ (tCons (tVar jb) tNil))) tNil)))) :
    Rn F (.Expr (.Call (.Attribute (.Name x p1) "append" p2) [.Tuple [e, .Name xb pb] kt pt] [] p3) pos) ρ (.nx ((ρ.set jb none).set j (some (.ow (us ++ [.tp [.fz d, t]]))))) := by
  obtain ⟨τ, y, z⟩ := he
  refine ⟨_, fun i => hps i τ (y i), fun D σ G0 H0 G H r k => ?_⟩
  obtain ⟨fp, r⟩ := r
  obtain ⟨l0, vs0, fq0, c1, c2, _⟩ := r.mut h (.refl r.st.s)
  obtain ⟨vb, fb, frb, b1, _⟩ := r.own.split hb
  refine ⟨_, c1, .inl ⟨rfl, _, SqL.of c2⟩, ?_⟩
  refine z σ G H fp _ r.st.s r.own r.g fun v3 G1 H1 f3 s1 o3 w3 => ?_
  refine ⟨vb, b1, by show 2 ≤ sizeLine; decide, fun p hp => ?_⟩
  obtain ⟨v, e1, fp2, r2⟩ := r.wrap2 hb s1 hp o3.2
  rw [b1] at e1
  cases e1
  have hjl : jb < ρ.length := by
    rcases Nat.lt_or_ge jb ρ.length with z | z
    · exact z
    · rw [List.getElem?_eq_none z] at hb; cases hb
  have hσl : jb < σ.length := (List.getElem?_eq_some_iff.mp b1).1
  obtain ⟨l, vs, v, d1, d2, d3, d4, d5⟩ := r2.move (j := j) (j2 := jb) (us := us) (t := .tp [.fz d, t]) hjb (by rw [List.getElem?_set_ne (Ne.symm hjb)]; exact h) (by rw [List.getElem?_set_self hjl])
  rw [List.getElem?_set_ne (Ne.symm hjb), c1] at d1
  cases d1
  rw [List.getElem?_set_self hσl] at d2
  cases d2
  refine ⟨l0, vs, .ref p, rfl, rfl, d3, by rw [← d4]; exact hz, k σ G1 _ ?_⟩
  rw [List.set_set] at d5
  have := d5.setn (y := jb) (u := some vb) (by rw [List.getElem?_set_ne hjb, List.getElem?_set_self hjl])
  rw [List.set_set, set_self b1] at this
  exact this
end L2
namespace L2
open PySem PySem.Spec PyProof.Rows
def rInI (K : PySem.W.Frag) : R2 := fun x y H Q => ∃ (d : List Int) (ls : List (List Int)), Hv K H (dis d) x ∧ Hv K H (.lst (ls.map dis)) y ∧ Q (.bl (ls.contains d)) H
theorem eqV_int (a b : Int) : eqV (.int a) (.int b) = decide (a = b) := by
  show (a == b) = _
  by_cases h : a = b
  · rw [decide_eq_true h]; simpa using h
  · rw [decide_eq_false h]; simpa using h
theorem eqD_dis : ∀ a b : List Int, eqD (dis a) (dis b) = decide (a = b)
  | [], [] => rfl
  | [], _ :: _ => rfl
  | _ :: _, [] => rfl
  | x :: a, y :: b => by
    have ih : eqDs (a.map di) (b.map di) = decide (a = b) := eqD_dis a b
    show (eqV (.int x) (.int y) && eqDs (a.map di) (b.map di)) = _
    rw [ih, eqV_int]
    by_cases h : x = y <;> by_cases h2 : a = b <;> simp [h, h2]
theorem op_inI {X : Cx} (hr : X.A.units + 64 < cLine) : OpR X (compareOp .In) (rInI X.K) := by
  intro pins s σ H x y v u Q I rx ry h
  obtain ⟨d, ls, hx, hy, q⟩ := h
  obtain ⟨p, xs, rfl, hq, hl⟩ := hy
  cases ry
  obtain ⟨its, r, pl, hz⟩ := I.list hq
  have e1 := hl.length
  have e2 := r.length
  rw [List.length_map] at e1
  have at' : ∀ {j : Nat} {w : Value}, its[j]? = some w → ∃ l xj, ls[j]? = some l ∧ Hv X.K H (dis l) xj ∧ RelV xj w := fun {j w} hw => by
    have hj := (List.getElem?_eq_some_iff.mp hw).1
    have hlj : ls[j]? = some ls[j] := List.getElem?_eq_getElem (by omega)
    obtain ⟨xj, g1, g2⟩ := hl.get (show (ls.map dis)[j]? = some (dis ls[j]) by rw [List.getElem?_map, hlj]; rfl)
    obtain ⟨w', g3, g4⟩ := r.get g1
    rw [hw] at g3
    cases g3
    exact ⟨_, xj, hlj, g2, g4⟩
  refine SeqAt.in_listAt (fun w => @decide (∃ j : Nat, its[j]? = some w ∧ ls[j]? = some d) (Classical.propDecidable _)) pl.isList (fun w hw => ?_) ⟨.bl _, H, I, rfl, ?_⟩
  · have hw' : w ∈ its := by simpa using hw
    obtain ⟨j, hj, ew⟩ := List.getElem_of_mem hw'
    have hj' : its[j]? = some w := by rw [List.getElem?_eq_getElem hj, ew]
    obtain ⟨l, xj, g1, g2, g3⟩ := at' hj'
    have ea := eqAt_D I (dis l) (dis d) X.A.in1 xj x w v (by show X.A.units + 1 + dpD (dis l) < cLine; have := dpD_dis l; omega) g2 hx g3 rx
    rw [eqD_dis] at ea
    have : @decide (∃ j : Nat, its[j]? = some w ∧ ls[j]? = some d) (Classical.propDecidable _) = decide (l = d) := by
      by_cases e : l = d
      · rw [decide_eq_true e]
        exact @decide_eq_true _ (Classical.propDecidable _) ⟨j, hj', by rw [g1, e]⟩
      · rw [decide_eq_false e]
        refine @decide_eq_false _ (Classical.propDecidable _) fun ⟨j2, q1, q2⟩ => e ?_
        obtain ⟨l2, xj2, p1, p2, p3⟩ := at' q1
        rw [q2] at p1
        cases p1
        have ex : xj = xj2 := by
          obtain ⟨a, _, rfl, _⟩ := id g2
          obtain ⟨b, _, rfl, _⟩ := id p2
          cases g3
          cases p3
          rfl
        subst ex
        have := same_eq I _ _ _ g2 p2
        rw [eqD_dis] at this
        exact of_decide_eq_true this
    rw [this]
    exact ea
  · have : its.toArray.any (fun w => @decide (∃ j : Nat, its[j]? = some w ∧ ls[j]? = some d) (Classical.propDecidable _)) = ls.contains d := by
      rw [show ∀ f : Value → Bool, its.toArray.any f = its.any f from fun f => by simp]
      cases hc : ls.contains d with
      | true =>
        obtain ⟨j, hj, ed⟩ := List.getElem_of_mem (show d ∈ ls by simpa using hc)
        exact List.any_eq_true.mpr ⟨its[j]'(by omega), List.getElem_mem _, @decide_eq_true _ (Classical.propDecidable _) ⟨j, List.getElem?_eq_getElem _, by rw [List.getElem?_eq_getElem hj, ed]⟩⟩
      | false =>
        refine List.any_eq_false.mpr fun w _ z => ?_
        obtain ⟨j, _, hj⟩ := @of_decide_eq_true _ (Classical.propDecidable _) z
        have : d ∈ ls := List.mem_of_getElem? hj
        rw [show ls.contains d = true by simpa using this] at hc
        cases hc
    rw [this]
    exact q
theorem et_inI {ι : Type} {F : Fam ι} {ρ : En} {a b : Expr} {pos : Pos} {ta tb' : Tr} {d : List Int} {ls : List (List Int)} (ha : Ev F a ρ ta) (hb : Ev F b ρ tb') (ea : er ta = dis d) (eb : er tb' = .lst (ls.map dis)) (hm : behindInMarks .In b = false) : Et F (.Compare a [.In] [b] pos) ρ (ls.contains d) :=
  et_cmp (r := rInI F.K) (fun i => F.hK i ▸ op_inI (F.hr i).units) ha hb (fun G H x y Q s hx hy k => ⟨d, ls, (ea ▸ hx).mono s, (eb ▸ hy).mono s, k⟩) hm
theorem rep_own {K : PySem.W.Frag} {G H : Hp} {d : Dv} {v : V} (h : Hv K G d v) : ∀ n : Nat, OwL K G H (List.replicate n (.fz d)) (List.replicate n v) []
  | 0 => ⟨rfl, rfl⟩
  | n + 1 => ⟨v, _, [], [], rfl, rfl, ⟨rfl, h⟩, rep_own h n⟩
theorem rep_flat {α : Type} (v : α) : ∀ n : Nat, (List.replicate n [v]).flatten = List.replicate n v
  | 0 => rfl
  | n + 1 => by rw [List.replicate_succ, List.flatten_cons, rep_flat v n, List.replicate_succ]; rfl
theorem ev_rep {ι : Type} {F : Fam ι} {ρ : En} {a b : Expr} {pos : Pos} {d : Dv} {n : Int} (ha : Ev F a ρ (.ow [.fz d])) (hb : Ev F b ρ (ti n)) (h0 : 0 ≤ n) (h1 : n ≤ 1000) : Ev F (.BinOp a .Mult b pos) ρ (.ow (List.replicate n.toNat (.fz d))) := by
  obtain ⟨τa, pa, qa⟩ := ha
  obtain ⟨τb, pb, qb⟩ := hb
  refine ⟨tOp rRep τa τb, fun i => pe_op op_rep (pa i) (pb i), fun σ G H Q s r k => ?_⟩
  refine qa σ G H _ s r fun x G1 H1 fq s1 o1 w1 => qb σ G1 H1 _ s1.s (r.mono s1.g) fun y G2 H2 fq2 s2 o2 w2 => ?_
  obtain ⟨l, vs, fq', rfl, hl, ol, rfl⟩ := o1
  obtain ⟨v, r', f1, f2, rfl, rfl, ⟨rfl, hv⟩, rfl, rfl⟩ := ol
  have big : 1000 < sizeLine := by decide
  refine ⟨l, n, [v], rfl, hvi o2.2, s2.h _ _ hl, by omega, by omega, by show 1 * n.toNat ≤ _; omega, fun p hp => ?_⟩
  rw [rep_flat]
  exact k _ G2 _ [p] ((s1.trans s2).trans (.newO s2.s hp)) ⟨p, _, [], rfl, upd_same, rep_own (hv.mono s2.g) _, rfl⟩ ⟨fun a ha => by rw [List.mem_singleton.mp ha]; exact (s1.h.trans s2.h).free hp, fun a ha => by rw [List.mem_singleton.mp ha]; exact s2.s.free hp, List.nodup_cons.mpr ⟨(fun z => nomatch z), .nil⟩⟩
theorem OwS.junk {K : PySem.W.Frag} {G H : Hp} {o : Option V} : ∀ {ρ : En} {σ : St} {fp : List Addr} {j : Nat}, OwS K G H ρ σ fp → ρ[j]? = some none → OwS K G H ρ (σ.set j o) fp
  | [], _, _, _, _, h => by cases h
  | none :: _, _, _, 0, ⟨o', r, h1, h2⟩, _ => by subst h1; exact ⟨o, r, rfl, h2⟩
  | none :: _, _, _, j + 1, ⟨o', r, h1, h2⟩, h => by subst h1; exact ⟨o', _, rfl, h2.junk (j := j) h⟩
  | some _ :: _, _, _, 0, _, h => by cases h
  | some _ :: _, _, _, j + 1, ⟨v, r, f1, f2, h1, h2, h3, h4⟩, h => by subst h1; exact ⟨v, _, f1, f2, rfl, h2, h3, h4.junk (j := j) h⟩
abbrev tRw (r : List Dv) : Tr := .ow (r.map .fz)
theorem rn_for_zipset {ι : Type} {F : Fam ι} {ρ : En} {e e2 : Expr} {t2 : Tr} {pos : Pos} (jx ja jb : Nat) {x xa xb : Str} {rows rows' : List (List Dv)} {ns : List Int} {p1 p2 p3 p4 p5 p6 pz pc ps : Pos} {kk tp}
    (h : ρ[jx]? = some (some (.ow (rows.map tRw)))) (ha0 : ρ[ja]? = some none) (hb0 : ρ[jb]? = some none) (hxa : jx ≠ ja) (hxb : jx ≠ jb) (hab : ja ≠ jb)
    (hn : Ev F e2 ρ t2) (en : er t2 = dis ns) (hln : ns.length = rows.length) (hlr : rows'.length = rows.length)
    (step : ∀ (k : Nat) (row : List Dv) (n : Int), rows[k]? = some row → ns[k]? = some n → ∃ m d, ixN row.length n = some m ∧ rows'[k]? = some (row.set m d) ∧ EvS F e (((ρ.set jx none).set ja (some (tRw row))).set jb (some (ti n))) (.fz d))
    (hmz : F.mg "zip" = none) (hN : ∀ i, (F.cx i).N.Nodup) (hNx : ∀ i, (F.cx i).N[jx]? = some x := by intro _; rfl) (hNa : ∀ i, (F.cx i).N[ja]? = some xa := by intro _; rfl) (hNb : ∀ i, (F.cx i).N[jb]? = some xb := by intro _; rfl)
    (hvx : ∀ i, Vis (F.cx i).env.scope x := by intro _; first | exact Or.inl rfl | exact Or.inr (Or.inl rfl) | exact Or.inr (Or.inr rfl)) (hdx : (x == ("__debug__" : Str)) = false := by decide) (hcx : (x == ("__classdict__" : Str)) = false := by decide)
    (hla : ∀ i, Loc (F.cx i).env.scope xa := by intro _; first | exact Or.inl rfl | exact Or.inr rfl) (hlb : ∀ i, Loc (F.cx i).env.scope xb := by intro _; first | exact Or.inl rfl | exact Or.inr rfl)
    (fa : ∀ i, (F.cx i).fn xa = true ∨ (F.cx i).env.scope.names.lookup xa = some .local := by intro _; first | exact .inl rfl | exact .inr rfl) (fb : ∀ i, (F.cx i).fn xb = true ∨ (F.cx i).env.scope.names.lookup xb = some .local := by intro _; first | exact .inl rfl | exact .inr rfl)
    (hg : ∀ i, Gl (F.cx i) "zip" := by intro _; rfl)
    (hs : ∀ i, starEach [.Name x p1, e2] (F.cx i).env = [(false, eval (.Name x p1) (F.cx i).env), (false, eval e2 (F.cx i).env)] := by intro _; rfl) (hs2 : ∀ i, starEach [e2] (F.cx i).env = [(false, eval e2 (F.cx i).env)] := by intro _; rfl)
    (hps : ∀ i, PG (F.cx i) (.Subscript (.Name xa p4) (.Name xb p5) p6) (gSub (tVar ja) (tVar jb) rSetL))
    (hw1 : ∀ i, swapsWithSole [.Subscript (.Name xa p4) (.Name xb p5) p6] e ps.line (F.cx i).env = pure false := by intro _; rfl) (hw2 : ∀ i, swappedStores [.Subscript (.Name xa p4) (.Name xb p5) p6] e (F.cx i).env = pure none := by intro _; rfl)
    (hw3 : ∀ i, (assignEach [.Subscript (.Name xa p4) (.Name xb p5) p6] (F.cx i).env).map (·.2) = [assign (.Subscript (.Name xa p4) (.Name xb p5) p6) (F.cx i).env] := by intro _; rfl)
    (hx : ∀ i, (F.cx i).xe = NoX := by intro _; rfl) (hsf : ∀ i y, foldedSetIterable (.Call (.Name "zip" pz) [.Name x p1, e2] [] pc) (F.cx i).env y = pure y := by intro _ _; rfl) :
    Rn F (.For (.Tuple [.Name xa p2, .Name xb p3] kk tp) (.Call (.Name "zip" pz) [.Name x p1, e2] [] pc) [.Assign [.Subscript (.Name xa p4) (.Name xb p5) p6] e ps] [] pos) ρ (.nx (ρ.set jx (some (.ow (rows'.map tRw))))) := by
  obtain ⟨τ2, y2, z2⟩ := hn.use
  refine ⟨tFor (iZip F.K (tCons (tVar jx) (tCons τ2 tNil))) (gTup F.K 2 (gCons (gName ja) (gCons (gName jb) gNil))) (tAsg (uE F e) (gSub (tVar ja) (tVar jb) rSetL)), fun i => ps_for (pOwn (hx i)) (F.calm i) (F.hK i ▸ pi_zip (hg i) ((F.hm i).symm ▸ hmz) (pa_cons (pe_var (hNx i) (hvx i) hdx hcx) (pa_cons (y2 i) pa_nil (by rw [hs2 i]; rfl)) (by rw [hs i, hs2 i])) (hs i) (hs2 i)) (F.hK i ▸ pg_tup (F.calm i) (pgs_cons (pg_name (hN i) (hNa i) (hla i) (fa i)) (pgs_cons (pg_name (hN i) (hNb i) (hlb i) (fb i)) pgs_nil))) (pss_one (ps_asg (uE_ok i) (hps i) (hw1 i) (hw2 i) (hw3 i))) (hsf i), fun D σ G0 H0 G H r k => ?_⟩
  obtain ⟨fp, r⟩ := r
  obtain ⟨lx, vs, fq, c1, c2, _, c4, _⟩ := r.mut h (.refl r.st.s)
  refine ⟨_, c1, z2 σ G H _ r.st.s r.own.rpd fun v2 G1 H1 s1 hv2 => ?_⟩
  rw [en] at hv2
  obtain ⟨l2, ws, rfl, g3, g4⟩ := hv2
  have ews := hvl_ints g4
  subst ews
  have lvs : vs.length = rows.length := by
    have := c4.length
    rw [List.length_map] at this
    exact this.symm
  have r1 : RSf F.K G0 H0 G1 H1 ρ σ fp := ⟨r.st.trans s1, r.own.mono s1.g s1.h, r.own.off s1 r.g, r.n, r.d⟩
  have kb := k.under r1.base
  refine ⟨lx, l2, vs, ns.map V.int, rfl, SqL.of (s1.h _ _ c2), s1.s.seq g3, ?_⟩
  have lr : jx < ρ.length := by
    rcases Nat.lt_or_ge jx ρ.length with z | z
    · exact z
    · rw [List.getElem?_eq_none z] at h; cases h
  let inv : Nat → En := fun n => ρ.set jx (some (.ow ((rows'.take n ++ rows.drop n).map tRw)))
  have i0 : inv 0 = ρ := by
    show ρ.set jx (some (.ow ((rows'.take 0 ++ rows.drop 0).map tRw))) = ρ
    rw [List.take_zero, List.nil_append, List.drop_zero]
    refine List.ext_getElem? fun m => ?_
    rw [List.getElem?_set]
    by_cases e : jx = m
    · subst e; rw [if_pos rfl, if_pos lr, h]
    · rw [if_neg e]
  have mn : min vs.length (ns.map V.int).length = rows.length := by rw [List.length_map, lvs, hln, Nat.min_self]
  refine ⟨fun n m' σ' H' => m' = rows.length - n ∧ n ≤ rows.length ∧ σ'[jx]? = some (some (.ref lx)) ∧ H' lx = some (.lst vs) ∧ ∃ G', RS F.K G1 (less H1 fp) G' H' (inv n) σ', ⟨_, rfl, Nat.zero_le _, c1, s1.h _ _ c2, G1, fp, i0.symm ▸ r1.rebase⟩, ?_⟩
  rintro n m' σ' H' ⟨rfl, hn', hc1, hc2, G', fp', r'⟩
  have sq2 : SqL F.K H' l2 (ns.map V.int) := (r'.st.g.trans r'.st.s).seq g3
  by_cases hlt : n < rows.length
  · refine .inr ⟨⟨SqL.of hc2, sq2, by rw [mn]; exact hlt⟩, fun σ2 H2 => σ2[jx]? = some (some (.ref lx)) ∧ H2 lx = some (.lst vs) ∧ ∃ G2, RS F.K G1 (less H1 fp) G2 H2 (inv (n + 1)) σ2, fun σ2 H2 z => ⟨rows.length - (n + 1), Nat.sub_succ_lt_self _ _ hlt, rfl, hlt, z⟩, fun xT H3 y => ?_⟩
    obtain ⟨T, vx, vy, hT, ex, ey, rfl, rfl⟩ := y
    have hn2 : n < ns.length := hln ▸ hlt
    have eyn : vy = .int (ns[n]'hn2) := by
      rw [List.getElem?_map, List.getElem?_eq_getElem hn2] at ey
      exact (Option.some.inj ey).symm
    subst eyn
    have hrow : rows[n]? = some (rows[n]'hlt) := List.getElem?_eq_getElem hlt
    have hnn : ns[n]? = some (ns[n]'hn2) := List.getElem?_eq_getElem hn2
    generalize hrw : rows[n]'hlt = row at hrow
    generalize ns[n]'hn2 = nn at hnn
    obtain ⟨m, d, hm, hr', τe, ye, ze⟩ := step n row nn hrow hnn
    have s3 : Step G' H' G' (upd H' T (.tup [vx, .int nn])) := .newO r'.st.s hT
    have la : ja < ρ.length := (List.getElem?_eq_some_iff.mp ha0).1
    have lb : jb < ρ.length := (List.getElem?_eq_some_iff.mp hb0).1
    have lsg : (inv n).length = σ'.length := r'.own.len
    have lσ : σ'.length = ρ.length := by rw [← lsg]; exact List.length_set
    have ia : (inv n)[ja]? = some none := by show (ρ.set jx _)[ja]? = _; rw [List.getElem?_set_ne hxa]; exact ha0
    have ib : (inv n)[jb]? = some none := by show (ρ.set jx _)[jb]? = _; rw [List.getElem?_set_ne hxb]; exact hb0
    refine ⟨T, [vx, .int nn], rfl, SqT.of upd_same, rfl, vx, [.int nn], rfl, .int nn, [], rfl, rfl, ?_⟩
    show tAsg (uE F e) (gSub (tVar ja) (tVar jb) rSetL) _ ((σ'.set ja (some vx)).set jb (some (.int nn))) (upd H' T (.tup [vx, .int nn]))
    have r3 : RSf F.K G1 (less H1 fp) G' (upd H' T (.tup [vx, .int nn])) (inv n) ((σ'.set ja (some vx)).set jb (some (.int nn))) fp' :=
      ⟨r'.st.trans s3, ((r'.own.mono s3.g s3.h).junk ia).junk ib, r'.g, r'.n, r'.d⟩
    have hx3 : upd H' T (.tup [vx, .int nn]) lx = some (.lst vs) := s3.h _ _ hc2
    have hs3 : ((σ'.set ja (some vx)).set jb (some (.int nn)))[jx]? = some (some (.ref lx)) := by rw [List.getElem?_set_ne hxb.symm, List.getElem?_set_ne hxa.symm]; exact hc1
    have gja : ((σ'.set ja (some vx)).set jb (some (.int nn)))[ja]? = some (some vx) := by rw [List.getElem?_set_ne hab.symm, List.getElem?_set, if_pos rfl, if_pos (lσ ▸ la)]
    have gjb : ((σ'.set ja (some vx)).set jb (some (.int nn)))[jb]? = some (some (.int nn)) := by rw [List.getElem?_set, if_pos rfl, if_pos (by rw [List.length_set]; exact lσ ▸ lb)]
    generalize upd H' T (.tup [vx, .int nn]) = H3 at r3 hx3
    generalize (σ'.set ja (some vx)).set jb (some (.int nn)) = σ3 at r3 hs3 gja gjb
    have hix : (inv n)[jx]? = some (some (.ow ((rows'.take n ++ rows.drop n).map tRw))) := by show (ρ.set jx _)[jx]? = _; rw [List.getElem?_set, if_pos rfl, if_pos lr]
    have hmin : min n rows'.length = n := Nat.min_eq_left (hlr ▸ hn')
    have hch : ((rows'.take n ++ rows.drop n).map tRw)[n]? = some (tRw row) := by
      rw [List.getElem?_map, List.getElem?_append_right (by rw [List.length_take]; exact Nat.min_le_left _ _), List.length_take, List.getElem?_drop, hmin, Nat.sub_self, Nat.add_zero, hrow]; rfl
    obtain ⟨v0, f0, fr, q1, q2, q3, q4⟩ := r3.own.split hix
    rw [hs3] at q1
    cases q1
    obtain ⟨lx', vs', fqx, ev0, hl0, ol0, rfl⟩ := q2
    cases ev0
    rw [hx3] at hl0
    cases hl0
    have nda := List.nodup_append.mp (q4.nodup_iff.mp r3.d)
    have ndx := List.nodup_cons.mp nda.1
    obtain ⟨l, xs, fw, k1, k2, k3, k4, k5, k6, k7, k8⟩ := ol0.child hch ndx.2
    rw [ex] at k1
    cases k1
    have mem0 : ∀ a ∈ lx :: fqx, a ∈ fp' := fun a ha => q4.mem_iff.mpr (List.mem_append_left _ ha)
    have memr : ∀ a ∈ fr, a ∈ fp' := fun a ha => q4.mem_iff.mpr (List.mem_append_right _ ha)
    have ej : (inv n).set jx none = ρ.set jx none := by show (ρ.set jx _).set jx none = _; rw [List.set_set]
    rw [ej] at q3
    have ja1 : (ρ.set jx none)[ja]? = some none := by rw [List.getElem?_set_ne hxa]; exact ha0
    obtain ⟨fa', b1, b2⟩ := q3.put ja1 (show Ow F.K G' H3 (tRw row) (.ref l) (l :: fw) from ⟨l, xs, fw, rfl, k3, k4, rfl⟩)
    have jb1 : ((ρ.set jx none).set ja (some (tRw row)))[jb]? = some none := by rw [List.getElem?_set_ne hab, List.getElem?_set_ne hxb]; exact hb0
    obtain ⟨fb', b3, b4⟩ := b1.put jb1 (show Ow F.K G' H3 (ti nn) (.int nn) [] from ⟨rfl, rfl, rfl⟩)
    have eσ : (σ3.set ja (some (.ref l))).set jb (some (.int nn)) = σ3 := by
      have h1 : σ3.set ja (some (.ref l)) = σ3 := by
        refine List.ext_getElem? fun q => ?_
        rw [List.getElem?_set]
        by_cases z : ja = q
        · subst z; rw [if_pos rfl, gja]; split
          · rfl
          · rename_i h0; exact absurd (List.getElem?_eq_some_iff.mp gja).1 h0
        · rw [if_neg z]
      rw [h1]
      refine List.ext_getElem? fun q => ?_
      rw [List.getElem?_set]
      by_cases z : jb = q
      · subst z; rw [if_pos rfl, gjb]; split
        · rfl
        · rename_i h0; exact absurd (List.getElem?_eq_some_iff.mp gjb).1 h0
      · rw [if_neg z]
    rw [eσ] at b3
    have memb : ∀ a ∈ fb', a ∈ fp' := fun a ha => by
      have h1 := b4.mem_iff.mp ha
      rw [List.nil_append] at h1
      rcases List.mem_append.mp (b2.mem_iff.mp h1) with z | z
      · rcases List.mem_cons.mp z with rfl | z
        · exact mem0 _ (.tail _ k2)
        · exact mem0 _ (.tail _ (k5 a z))
      · exact memr a z
    refine ⟨τe, ye, ze σ3 G' H3 fb' _ r3.st.s b3 (fun a ha => r3.g a (memb a ha)) fun v1 G4 H4 f1 s4 o1 w1 => ?_⟩
    obtain ⟨rfl, hv1⟩ := o1
    obtain ⟨v2, f2', d1, d2, d3, dn, d5, d7⟩ := r3.chg hix s4
    rw [hs3] at d1
    cases d1
    obtain ⟨lx', vs', fq2, ev0, hl2, ol2, rfl⟩ := d3
    cases ev0
    have : vs' = vs := by
      have h1 := s4.h _ _ hx3
      rw [h1] at hl2
      cases hl2; rfl
    subst this
    have ndq := List.nodup_cons.mp dn
    obtain ⟨l', xs', fw2, g1, g2, g3', g4', g5, g6, g7, g8⟩ := ol2.child hch ndq.2
    rw [ex] at g1
    cases g1
    have hm' : m < (row.map Tr.fz).length := by rw [List.length_map]; exact (ixN_seq hm).2.1
    obtain ⟨fw', t1, t2', t3⟩ := g4'.setAt hm' (show Ow F.K G4 H4 (.fz d) v1 [] from ⟨rfl, hv1⟩) g6 .nil fun a ha => nomatch ha
    have t3' : ∀ a ∈ fw', a ∈ fw2 := fun a ha => (t3 a ha).elim id fun z => nomatch z
    obtain ⟨fq', b1', b2', b3'⟩ := g8 _ _ fw' t1 t2' (fun a ha => .inl (t3' a ha)) (fun z => g7 (t3' _ z))
    have l0q : lx ∉ fq' := fun z => by
      rcases b3' lx z with z | z
      · exact ndq.1 z
      · exact ndq.1 (g5 _ (t3' _ z))
    have lne : lx ≠ l := fun z => ndq.1 (z ▸ g2)
    have lxs : xs'.length = row.length := by
      have := g4'.length
      rw [List.length_map] at this
      exact this.symm
    have hset : ((rows'.take n ++ rows.drop n).map tRw).set n (.ow ((row.map Tr.fz).set m (.fz d))) = (rows'.take (n + 1) ++ rows.drop (n + 1)).map tRw := by
      have e1 : Tr.ow ((row.map Tr.fz).set m (.fz d)) = tRw (row.set m d) := by show _ = Tr.ow _; rw [List.map_set]
      have hn3 : n < rows'.length := hlr ▸ hlt
      have e2 : rows'[n]'hn3 = row.set m d := by rw [List.getElem?_eq_getElem hn3] at hr'; exact Option.some.inj hr'
      rw [e1, ← List.map_set]
      congr 1
      rw [List.set_append_right _ _ (by rw [List.length_take]; exact Nat.min_le_left _ _), List.length_take, hmin, Nat.sub_self, List.drop_eq_getElem_cons hlt, List.set_cons_zero, List.take_succ_eq_append_getElem hn3, e2, List.append_assoc]; rfl
    refine ⟨_, gja, _, gjb, l, xs', nn, m, rfl, rfl, g3', by rw [lxs]; exact hm, hs3, by rw [upd_ne lne]; exact hl2, G4, ?_⟩
    have := d7 l (.lst (xs'.set m v1)) (.ow (((rows'.take n ++ rows.drop n).map tRw).set n (.ow ((row.map Tr.fz).set m (.fz d))))) (lx :: fq') (.tail _ g2) ⟨lx, _, fq', rfl, by rw [upd_ne lne]; exact hl2, b1', rfl⟩ (List.nodup_cons.mpr ⟨l0q, b2'⟩) fun a ha => ?_
    · rw [hset] at this
      have ei : (inv n).set jx (some (.ow ((rows'.take (n + 1) ++ rows.drop (n + 1)).map tRw))) = inv (n + 1) := by show (ρ.set jx _).set jx _ = _; rw [List.set_set]
      rw [ei] at this
      exact this
    · rcases List.mem_cons.mp ha with z | z
      · exact .inl (z ▸ .head _)
      · rcases b3' a z with z | z
        · exact .inl (.tail _ z)
        · exact .inl (.tail _ (g5 a (t3' a z)))
  · have en' : n = rows.length := Nat.le_antisymm hn' (Nat.le_of_not_lt hlt)
    subst en'
    refine .inl ⟨⟨SqL.of hc2, sq2, mn.symm⟩, ?_⟩
    have ef : inv rows.length = ρ.set jx (some (.ow (rows'.map tRw))) := by
      show ρ.set jx _ = _
      rw [List.drop_length, List.append_nil, ← hlr, List.take_length]
    exact kb σ' G' H' ⟨fp', ef ▸ r'⟩
end L2
namespace K35
open PySem L2 Fra
def top (i : Nat) : Stmt := PySem.Challenge.pw_lotmeal_k35_whole_mix_walked.main.body.getD i (.Pass ⟨0, 0, 0, 0⟩)
structure Txt (mg : Str → Option Value) : Prop where
  b_isinstance : mg "isinstance" = none
  b_int : mg "int" = none
  b_bool : mg "bool" = none
  b_list : mg "list" = none
  b_tuple : mg "tuple" = none
  b_len : mg "len" = none
  b_range : mg "range" = none
  b_zip : mg "zip" = none
  b_enumerate : mg "enumerate" = none
  b_sorted : mg "sorted" = none
  b_any : mg "any" = none
  b_all : mg "all" = none
  b_abs : mg "abs" = none
  b_sum : mg "sum" = none
  b_min : mg "min" = none
  b_max : mg "max" = none
  g_MOST : ∃ tk, mg "MOST" = some (.int 6 tk)
section
variable {P : Program} {w : World} {K : PySem.W.Frag} {mg : Str → Option Value} {base : Heap}
def numsF (n : Nat) : List Int := (List.range n).map fun i => 0 + ((i : Nat) : Int)
theorem mem_nums {n : Nat} {x : Int} : x ∈ numsF n ↔ 0 ≤ x ∧ x < n := by
  unfold numsF
  constructor
  · intro h
    obtain ⟨i, hi, rfl⟩ := List.mem_map.mp h
    have := List.mem_range.mp hi
    omega
  · rintro ⟨h0, h1⟩
    exact List.mem_map.mpr ⟨x.toNat, List.mem_range.mpr (by omega), by omega⟩
theorem nums_nodup (n : Nat) : (numsF n).Nodup := by
  unfold numsF
  rw [List.nodup_iff_pairwise_ne, List.pairwise_map]
  exact (List.nodup_range (n := n)).imp fun h z => h (by omega)
def lat (l : List Int) (x : Int) : Int := l.getD x.toNat 0
def vI (x : Int) : V := if x < 0 then .non else .int x
abbrev Rs := Bool × List Int × List Int
def holdF (d : List Int) (x : Int) : List Int := (numsF d.length).filter fun o => decide (lat d o = x)
def othF (rec : List Int → List Int → Int → Rs) (a x : Int) : List Int → List Int → List Int → Rs
  | [], d, s => (false, d, s)
  | o :: os, d, s => if s.contains o then othF rec a x os d s else
    match rec d s o with
    | (true, d', s') => (true, d'.set a.toNat x, s')
    | (false, d', s') => othF rec a x os d' s'
def thgF (rec : List Int → List Int → Int → Rs) (c : List Int) (a : Int) : List Int → List Int → List Int → Rs
  | [], d, s => (false, d, s)
  | x :: xs, d, s => if (d.count x : Int) < lat c x then (true, d.set a.toNat x, s) else
    match othF rec a x (holdF d x) d s with
    | (true, d', s') => (true, d', s')
    | (false, d', s') => thgF rec c a xs d' s'
def nx1 (rec : List Int → List Int → Int → Rs) (c : List Int) (a : Int) (xs : List Int) (r : Rs) : Rs := if r.1 = true then r else thgF rec c a xs r.2.1 r.2.2
theorem thg_cons (rec : List Int → List Int → Int → Rs) (c : List Int) (a x : Int) (xs d s : List Int) : thgF rec c a (x :: xs) d s = if (d.count x : Int) < lat c x then (true, d.set a.toNat x, s) else nx1 rec c a xs (othF rec a x (holdF d x) d s) := by
  rw [thgF]
  split
  · rfl
  · unfold nx1
    rcases othF rec a x (holdF d x) d s with ⟨b, d', s'⟩
    cases b <;> rfl
def nx2 (rec : List Int → List Int → Int → Rs) (a x : Int) (os : List Int) (r : Rs) : Rs := if r.1 = true then (true, r.2.1.set a.toNat x, r.2.2) else othF rec a x os r.2.1 r.2.2
theorem oth_cons (rec : List Int → List Int → Int → Rs) (a x o : Int) (os d s : List Int) : othF rec a x (o :: os) d s = if s.contains o = true then othF rec a x os d s else nx2 rec a x os (rec d s o) := by
  rw [othF]
  split
  · rfl
  · unfold nx2
    rcases rec d s o with ⟨b, d', s'⟩
    cases b <;> rfl
def givF (c : List Int) (may : List (List Int)) : Nat → List Int → List Int → Int → Rs
  | 0, d, s, _ => (false, d, s)
  | f + 1, d, s, a => thgF (givF c may f) c a (may.getD a.toNat []) d (s ++ [a])
structure InOk (c : List Int) (may : List (List Int)) : Prop where
  n6 : c.length ≤ 6
  A6 : may.length ≤ 6
  row : ∀ r ∈ may, r.length ≤ 7 ∧ ∀ x ∈ r, 0 ≤ x ∧ x ≤ c.length
structure GvOk (c : List Int) (may : List (List Int)) (d s : List Int) : Prop where
  dl : d.length = may.length
  dr : ∀ x ∈ d, -1 ≤ x ∧ x ≤ c.length
  sr : ∀ x ∈ s, 0 ≤ x ∧ x < may.length
  sn : s.Nodup
  no : ∀ a : Int, 0 ≤ a → a < may.length → (c.length : Int) ∈ may.getD a.toNat [] → lat d a = c.length
theorem lat_set {l : List Int} {a b : Int} {v : Int} (a0 : 0 ≤ a) (b0 : 0 ≤ b) (b1 : b < l.length) : lat (l.set a.toNat v) b = if a = b then v else lat l b := by
  unfold lat
  rw [List.getD_eq_getElem?_getD, List.getElem?_set]
  by_cases e : a = b
  · subst e
    rw [if_pos rfl, if_pos rfl, if_pos (by omega)]; rfl
  · rw [if_neg (by omega), if_neg e, List.getD_eq_getElem?_getD]
theorem lat_mem {l : List Int} {x : Int} (h0 : 0 ≤ x) (h1 : x < l.length) : lat l x ∈ l := by
  unfold lat
  rw [List.getD_eq_getElem?_getD, List.getElem?_eq_getElem (show x.toNat < l.length by omega)]
  exact List.getElem_mem _
theorem lat_at {α : Type} (f : Int → α) {l : List Int} {x : Int} (h0 : 0 ≤ x) (h1 : x < l.length) : atI (l.map f) x = some (f (lat l x)) := by
  obtain ⟨j, rfl⟩ : ∃ j : Nat, x = (j : Int) := ⟨x.toNat, by omega⟩
  refine atI_nat ?_
  unfold lat
  rw [List.getElem?_map, List.getD_eq_getElem?_getD, Int.toNat_natCast, List.getElem?_eq_getElem (by omega)]; rfl
theorem nums_len (n : Nat) : (numsF n).length = n := by unfold numsF; rw [List.length_map, List.length_range]
theorem mem_hold {d : List Int} {x o : Int} : o ∈ holdF d x ↔ (0 ≤ o ∧ o < d.length) ∧ lat d o = x := by
  unfold holdF
  rw [List.mem_filter, mem_nums, decide_eq_true_iff]
theorem GvOk.put {c : List Int} {may : List (List Int)} {d s : List Int} (h : GvOk c may d s) {a x : Int} (a0 : 0 ≤ a) (nn : (c.length : Int) ∉ may.getD a.toNat []) (x0 : 0 ≤ x) (x1 : x ≤ c.length) : GvOk c may (d.set a.toNat x) s := by
  refine ⟨by rw [List.length_set]; exact h.dl, fun y hy => ?_, h.sr, h.sn, fun b b0 b1 hb => ?_⟩
  · rcases List.mem_or_eq_of_mem_set hy with z | rfl
    · exact h.dr y z
    · omega
  · rw [lat_set a0 b0 (by rw [h.dl]; exact b1), if_neg (show ¬ a = b from fun e => nn (e ▸ hb))]
    exact h.no b b0 b1 hb
structure Kp (c : List Int) (may : List (List Int)) (s : List Int) (r : Rs) : Prop where
  ok : GvOk c may r.2.1 r.2.2
  sub : ∀ x ∈ s, x ∈ r.2.2
  len : s.length ≤ r.2.2.length
theorem oth_ok {c : List Int} {may : List (List Int)} {rec : List Int → List Int → Int → Rs} {a x : Int} (a0 : 0 ≤ a) (nn : (c.length : Int) ∉ may.getD a.toNat []) (x0 : 0 ≤ x) (x1 : x < c.length) {A0 : Nat}
    (hrec : ∀ (d s : List Int) (o : Int), GvOk c may d s → 0 ≤ o → o < may.length → o ∉ s → (c.length : Int) ∉ may.getD o.toNat [] → A0 ≤ s.length → Kp c may s (rec d s o)) :
    ∀ (os d s : List Int), GvOk c may d s → A0 ≤ s.length → (∀ o ∈ os, 0 ≤ o ∧ o < may.length ∧ (c.length : Int) ∉ may.getD o.toNat []) → Kp c may s (othF rec a x os d s)
  | [], d, s, h, _, _ => ⟨h, fun _ z => z, Nat.le_refl _⟩
  | o :: os, d, s, h, hA, ho => by
    have ho' := ho o (.head _)
    unfold othF
    by_cases hs : s.contains o = true
    · rw [if_pos hs]
      exact oth_ok a0 nn x0 x1 hrec os d s h hA fun o' h' => ho o' (.tail _ h')
    · rw [if_neg hs]
      have hn : o ∉ s := fun z => hs (by simpa using z)
      have hk := hrec d s o h ho'.1 ho'.2.1 hn ho'.2.2 hA
      rcases hr : rec d s o with ⟨b, d', s'⟩
      rw [hr] at hk
      cases b with
      | true => exact ⟨hk.ok.put a0 nn x0 (by omega), hk.sub, hk.len⟩
      | false =>
        have ih := oth_ok a0 nn x0 x1 hrec os d' s' hk.ok (Nat.le_trans hA hk.len) fun o' h' => ho o' (.tail _ h')
        exact ⟨ih.ok, fun y hy => ih.sub y (hk.sub y hy), Nat.le_trans hk.len ih.len⟩
theorem hold_ok {c : List Int} {may : List (List Int)} {d s : List Int} (h : GvOk c may d s) {x : Int} (x1 : x < c.length) : ∀ o ∈ holdF d x, 0 ≤ o ∧ o < may.length ∧ (c.length : Int) ∉ may.getD o.toNat [] := fun o ho => by
  obtain ⟨⟨o0, o1⟩, e⟩ := mem_hold.mp ho
  have o1' : o < may.length := by rw [← h.dl]; exact o1
  exact ⟨o0, o1', fun z => by have := h.no o o0 o1' z; omega⟩
theorem thg_ok {c : List Int} {may : List (List Int)} {rec : List Int → List Int → Int → Rs} {a : Int} (a0 : 0 ≤ a) (nn : (c.length : Int) ∉ may.getD a.toNat []) {A0 : Nat}
    (hrec : ∀ (d s : List Int) (o : Int), GvOk c may d s → 0 ≤ o → o < may.length → o ∉ s → (c.length : Int) ∉ may.getD o.toNat [] → A0 ≤ s.length → Kp c may s (rec d s o)) :
    ∀ (xs d s : List Int), GvOk c may d s → A0 ≤ s.length → (∀ x ∈ xs, 0 ≤ x ∧ x < c.length) → Kp c may s (thgF rec c a xs d s)
  | [], d, s, h, _, _ => ⟨h, fun _ z => z, Nat.le_refl _⟩
  | x :: xs, d, s, h, hA, hx => by
    have hx' := hx x (.head _)
    unfold thgF
    by_cases hc : (d.count x : Int) < lat c x
    · rw [if_pos hc]
      exact ⟨h.put a0 nn hx'.1 (by omega), fun _ z => z, Nat.le_refl _⟩
    · rw [if_neg hc]
      have hk := oth_ok a0 nn hx'.1 hx'.2 hrec (holdF d x) d s h hA (hold_ok h hx'.2)
      rcases hr : othF rec a x (holdF d x) d s with ⟨b, d', s'⟩
      rw [hr] at hk
      cases b with
      | true => exact hk
      | false =>
        have ih := thg_ok a0 nn hrec xs d' s' hk.ok (Nat.le_trans hA hk.len) fun y hy => hx y (.tail _ hy)
        exact ⟨ih.ok, fun y hy => ih.sub y (hk.sub y hy), Nat.le_trans hk.len ih.len⟩
theorem row_in {c : List Int} {may : List (List Int)} (io : InOk c may) {a : Int} (a0 : 0 ≤ a) (a1 : a < may.length) (nn : (c.length : Int) ∉ may.getD a.toNat []) : (may.getD a.toNat []).length ≤ 7 ∧ ∀ x ∈ may.getD a.toNat [], 0 ≤ x ∧ x < c.length := by
  have hm : may.getD a.toNat [] ∈ may := by
    rw [List.getD_eq_getElem?_getD, List.getElem?_eq_getElem (show a.toNat < may.length by omega)]
    exact List.getElem_mem _
  refine ⟨(io.row _ hm).1, fun x hx => ?_⟩
  have h := (io.row _ hm).2 x hx
  have : x ≠ c.length := fun e => nn (e ▸ hx)
  omega
theorem GvOk.see {c : List Int} {may : List (List Int)} {d s : List Int} (h : GvOk c may d s) {a : Int} (a0 : 0 ≤ a) (a1 : a < may.length) (na : a ∉ s) : GvOk c may d (s ++ [a]) :=
  ⟨h.dl, h.dr, fun x hx => by
    rcases List.mem_append.mp hx with z | z
    · exact h.sr x z
    · rw [List.mem_singleton.mp z]; exact ⟨a0, a1⟩, List.nodup_append.mpr ⟨h.sn, by simp, fun x hx y hy e => by
      rw [List.mem_singleton.mp hy] at e
      exact na (e ▸ hx)⟩, h.no⟩
theorem giv_ok {c : List Int} {may : List (List Int)} (io : InOk c may) : ∀ (f : Nat) (d s : List Int) (a : Int), GvOk c may d s → 0 ≤ a → a < may.length → a ∉ s → (c.length : Int) ∉ may.getD a.toNat [] → Kp c may s (givF c may f d s a)
  | 0, d, s, a, h, _, _, _, _ => ⟨h, fun _ z => z, Nat.le_refl _⟩
  | f + 1, d, s, a, h, a0, a1, na, nn => by
    have hk := thg_ok (A0 := 0) a0 nn (fun d s o h o0 o1 no nn' _ => giv_ok io f d s o h o0 o1 no nn') (may.getD a.toNat []) d (s ++ [a]) (h.see a0 a1 na) (Nat.zero_le _) (row_in io a0 a1 nn).2
    exact ⟨hk.ok, fun x hx => hk.sub x (List.mem_append_left _ hx), Nat.le_trans (by rw [List.length_append]; omega) hk.len⟩
theorem ne_len (a : Int) : ∀ {s : List Int}, s.Nodup → s.length ≤ (s.filter fun x => decide (x ≠ a)).length + 1
  | [], _ => Nat.zero_le _
  | x :: s, nd => by
    have n2 := List.nodup_cons.mp nd
    have ih := ne_len a n2.2
    rw [List.filter_cons]
    by_cases e : x = a
    · rw [if_neg (by simpa using e)]
      have : s.filter (fun y => decide (y ≠ a)) = s := List.filter_eq_self.mpr fun y hy => decide_eq_true fun z => n2.1 (by rw [e, ← z]; exact hy)
      rw [this]; exact Nat.le_refl _
    · rw [if_pos (by simpa using e), List.length_cons, List.length_cons]; omega
theorem seen_le : ∀ {A : Nat} {s : List Int}, (∀ x ∈ s, 0 ≤ x ∧ x < (A : Int)) → s.Nodup → s.length ≤ A
  | 0, [], _, _ => Nat.le_refl _
  | 0, x :: s, h, _ => by have := h x (.head _); omega
  | A + 1, s, h, nd => by
    have h1 := seen_le (A := A) (s := s.filter fun x => decide (x ≠ (A : Int))) (fun x hx => by
      obtain ⟨hx1, hx2⟩ := List.mem_filter.mp hx
      have := h x hx1
      have hx3 := of_decide_eq_true hx2
      omega) (nd.filter _)
    have := ne_len (A : Int) nd
    omega
theorem iteT' {a b : Prop} (h : a) : if true = true then a else b := by rw [if_pos rfl]; exact h
theorem vI_pos {x : Int} (h : 0 ≤ x) : vI x = .int x := by unfold vI; rw [if_neg (by omega)]
theorem vI_neg {x : Int} (h : x < 0) : vI x = .non := by unfold vI; rw [if_pos h]
theorem eqV_vI {x y : Int} (hy : 0 ≤ y) : eqV (vI x) (.int y) = decide (x = y) := by
  by_cases h : x < 0
  · rw [vI_neg h, decide_eq_false (by omega)]; rfl
  · rw [vI_pos (by omega)]
    show (x == y) = _
    rw [Bool.beq_eq_decide_eq]
theorem flat_vI (x : Int) : flatV (vI x) = true := by
  by_cases h : x < 0
  · rw [vI_neg h]; rfl
  · rw [vI_pos (by omega)]; rfl
theorem count_vI {x : Int} (hx : 0 ≤ x) : ∀ d : List Int, (d.map vI).countP (fun z => eqV z (.int x)) = d.count x
  | [] => rfl
  | y :: d => by
    rw [List.map_cons, List.countP_cons, count_vI hx d, List.count_cons, eqV_vI hx]
    by_cases h : y = x
    · rw [if_pos (decide_eq_true h), if_pos (by simpa using h)]
    · rw [if_neg (by rw [decide_eq_false h]; decide), if_neg (by simpa using h)]
theorem hvl_vI {K : PySem.W.Frag} {G : Hp} : ∀ d : List Int, HvL K G ((d.map vI).map .fl) (d.map vI)
  | [] => rfl
  | x :: d => ⟨_, _, rfl, ⟨rfl, flat_vI x⟩, hvl_vI d⟩
theorem sK_val (s : List Int) (o : Int) : (valV (sK s) (.inl o)).isSome = s.contains o := by
  rw [← valV_any]
  unfold sK
  rw [List.any_map]
  induction s with
  | nil => rfl
  | cons x s ih =>
    rw [List.any_cons, ih, List.contains_cons]
    congr 1
    show decide ((Sum.inl x : Key) = Sum.inl o) = _
    rw [key_ll]
    exact Bool.beq_comm
theorem sK_put {s : List Int} {a : Int} (h : a ∉ s) : putK (sK s) (.inl a) (.bl true) = sK (s ++ [a]) := by
  have hn : valV (sK s) (.inl a) = none := by
    have := sK_val s a
    rw [show s.contains a = false by simpa using h] at this
    cases q : valV (sK s) (.inl a) with
    | none => rfl
    | some v => rw [q] at this; cases this
  rw [putK_new _ hn]
  unfold sK
  rw [List.map_append]; rfl
theorem scal_vI (x y : Int) : scal (vI x) (.int y) = true := by
  by_cases h : x < 0
  · rw [vI_neg h]; rfl
  · rw [vI_pos (by omega)]; rfl
theorem dec_vI {x y : Int} (hy : 0 ≤ y) : decide (vI x = .int y) = decide (x = y) := by
  refine decide_eq_decide.mpr ⟨fun h => ?_, fun h => by rw [h, vI_pos hy]⟩
  by_cases hx : x < 0
  · rw [vI_neg hx] at h; cases h
  · rw [vI_pos (by omega)] at h
    injection h
theorem enum_vI (d : List Int) : enuD ((d.map vI).map .fl) = (numsF d.length).map fun o => Dv.tup [di o, .fl (vI (lat d o))] := by
  unfold enuD
  refine List.ext_getElem? fun n => ?_
  rw [List.getElem?_zipWith, List.length_map, List.length_map, List.getElem?_map, List.getElem?_map, List.getElem?_map]
  by_cases hn : n < d.length
  · have e1 : (numsF d.length)[n]? = some (0 + (n : Int)) := by
      unfold numsF
      rw [List.getElem?_map, List.getElem?_range hn]; rfl
    rw [e1, List.getElem?_range hn, List.getElem?_eq_getElem hn]
    show some (Dv.tup [di (n : Int), .fl (vI d[n])]) = some (Dv.tup [di (0 + (n : Int)), .fl (vI (d.getD (0 + (n : Int)).toNat 0))])
    rw [Int.zero_add, Int.toNat_natCast, List.getD_eq_getElem?_getD, List.getElem?_eq_getElem hn]; rfl
  · rw [List.getElem?_eq_none (l := List.range d.length) (by rw [List.length_range]; omega), List.getElem?_eq_none (l := numsF d.length) (by rw [nums_len]; omega)]; rfl
structure GS (ld ls : Addr) (H : Hp) (d s : List Int) : Prop where
  d : H ld = some (.lst (d.map vI))
  s : H ls = some (.dK (sK s))
theorem GS.mono {ld ls : Addr} {H H1 : Hp} {d s : List Int} (g : GS ld ls H d s) (e : Same H H1) : GS ld ls H1 d s := ⟨e _ _ g.d, e _ _ g.s⟩
theorem GS.put {ld ls : Addr} {H : Hp} {d s : List Int} (g : GS ld ls H d s) (ne : ld ≠ ls) {a x : Int} (x0 : 0 ≤ x) : GS ld ls (upd H ld (.lst ((d.map vI).set a.toNat (.int x)))) (d.set a.toNat x) s := by
  refine ⟨?_, by rw [upd_ne (Ne.symm ne)]; exact g.s⟩
  rw [upd_same, List.map_set, vI_pos x0]
theorem md_same {f : List Addr} {G H H1 : Hp} (s : Same G H) (n : ∀ a ∈ f, G a = none) (m : Md f H H1) : Same G H1 := fun b o hb => m b o (fun z => by rw [n b z] at hb; cases hb) (s b o hb)
abbrev s_give_thing : Stmt := top 1
theorem sc_give_thing : FnScope ["counts", "may", "deal", "asker", "seen", "thing", "other"] ["counts", "may", "deal", "asker", "seen"] (defScope s_give_thing) := ⟨rfl, rfl, rfl, by decide +kernel, rfl, by decide +kernel, by decide +kernel⟩
def spGive (K : PySem.W.Frag) (f : Nat) : Sp := fun vs H Q _ => ∃ (c : List Int) (may : List (List Int)) (vc vm : V) (ld ls : Addr) (G : Hp) (d s : List Int) (a : Int), vs = [vc, vm, .ref ld, .int a, .ref ls] ∧ Same G H ∧ Hv K G (dis c) vc ∧ Hv K G (.lst (may.map dis)) vm ∧ (∀ b ∈ [ld, ls], G b = none) ∧ ld ≠ ls ∧ GS ld ls H d s ∧ InOk c may ∧ GvOk c may d s ∧ 0 ≤ a ∧ a < may.length ∧ a ∉ s ∧ (c.length : Int) ∉ may.getD a.toNat [] ∧ may.length ≤ f + s.length ∧
  ∀ H', Md [ld, ls] H H' → GS ld ls H' (givF c may f d s a).2.1 (givF c may f d s a).2.2 → Q (.bl (givF c may f d s a).1) H'
theorem okr_give_thing {f : Addr} {fd : FuncData} {k : Nat} (F : Fun K "give_thing" "give_thing" s_give_thing f fd) (T : Txt mg) (Kn0 : ∀ sp j, FnOk P w K mg base CX0 j f fd ["counts", "may", "deal", "asker", "seen"] sp → Kn P w K mg base CX0 j "give_thing" f fd ["counts", "may", "deal", "asker", "seen"] sp) : ∀ n, FnOk P w K mg base CX0 (k + n + 1) f fd ["counts", "may", "deal", "asker", "seen"] (spGive K n)
  | 0 => by
    refine F.ok sc_give_thing (fun vs H Q E h => by obtain ⟨_, _, _, _, _, _, _, _, _, _, rfl, _⟩ := h; rfl) fun cdv A outer s H vs Q E hr h => ?_
    obtain ⟨c, may, vc, vm, ld, ls, G, d, sn, a, rfl, sGH, hc, hmv, gn, ne, gs, io, ok, a0, a1, na, nn, fu, fin⟩ := h
    have := seen_le (fun x hx => (ok.see a0 a1 na).sr x hx) (ok.see a0 a1 na).sn
    rw [List.length_append, List.length_singleton] at this
    omega
  | n + 1 => by
    have ih := okr_give_thing (k := k) F T Kn0 n
    refine F.ok sc_give_thing (fun vs H Q E h => by obtain ⟨_, _, _, _, _, _, _, _, _, _, rfl, _⟩ := h; rfl) fun cdv A outer s H vs Q E hr h => ?_
    obtain ⟨c, may, vc, vm, ld, ls, G, d, sn, a, rfl, sGH, hc, hmv, gn, ne, gs, io, ok, a0, a1, na, nn, fu, fin⟩ := h
    have big : 1000 < sizeLine := by decide
    have hu : ((cxOf CX0 P w K mg base ["counts", "may", "deal", "asker", "seen", "thing", "other"] "give_thing" (defScope s_give_thing) f cdv A outer s H E).nox).A.units + 1 < cLine := Nat.lt_of_le_of_lt (Nat.add_le_add_left (show 1 ≤ 64 by decide) _) hr.units
    refine ⟨_, pss_cons (ps_dput hu (pv 4) (pv 3) pe_bl rfl) (pss_cons (ps_for PassesOwn.never rfl (pi_list (pe_ix ix_list (pv 1) (pv 3) (fun _ _ => rfl))) (pg_name (i := 5) sc_give_thing.nd rfl (by first | exact Or.inl rfl | exact Or.inr rfl))
      (pss_cons (ps_if (uT_ok (F := famD P w K mg base ["counts", "may", "deal", "asker", "seen", "thing", "other"] "give_thing" (defScope s_give_thing) f (k + n + 1)) ⟨cdv, A, outer, s, H, E, hr⟩) (pss_cons (ps_asg (pv 5) (pg_sub (pv 2) (pv 3) set_list)) (pss_one (ps_ret pe_bl))) pss_nil)
      (pss_one (ps_for PassesOwn.never rfl (pi_list (uE_ok (F := famD P w K mg base ["counts", "may", "deal", "asker", "seen", "thing", "other"] "give_thing" (defScope s_give_thing) f (k + n + 1)) ⟨cdv, A, outer, s, H, E, hr⟩)) (pg_name (i := 6) sc_give_thing.nd rfl (by first | exact Or.inl rfl | exact Or.inr rfl))
        (pss_one (ps_if (PW.pt (pw_and (pt_cmp (pc_dnotin hu (pv 6) (pv 4)) rfl) (pw_and1 (pt_val (pe_kn (Kn0 _ _ ih) hr (by rfl) (pa_cons (pv 0) (pa_cons (pv 1) (pa_cons (pv 2) (pa_cons (pv 6) (pa_cons (pv 4) pa_nil)))))))))) (pss_cons (ps_asg (pv 5) (pg_sub (pv 2) (pv 3) set_list)) (pss_one (ps_ret pe_bl))) pss_nil)))))) (pss_one (ps_ret pe_bl))), ?_⟩
    show tSeq _ _ _ [some vc, some vm, some (.ref ld), some (.int a), some (.ref ls), none, none] H
    have okS := ok.see a0 a1 na
    have sl := seen_le okS.sr okS.sn
    rw [List.length_append, List.length_singleton] at sl
    have A6 := io.A6
    refine ⟨_, rfl, _, rfl, ls, _, rfl, DPut.k (k := .inl a) gs.s (by unfold sK; rw [List.length_map]; omega), ?_⟩
    rw [sK_put na]
    have gs1 : GS ld ls (upd H ls (.dK (sK (sn ++ [a])))) d (sn ++ [a]) := ⟨by rw [upd_ne ne]; exact gs.d, upd_same⟩
    have md1 : Md [ld, ls] H (upd H ls (.dK (sK (sn ++ [a])))) := .upd (.tail _ (.head _))
    generalize upd H ls (.dK (sK (sn ++ [a]))) = H1 at gs1 md1
    have ri := row_in io a0 a1 nn
    obtain ⟨lm, xm, rfl, sqm, hvm⟩ := hmv
    have hrow : (may.map dis)[a.toNat]? = some (dis (may.getD a.toNat [])) := by rw [List.getElem?_map, List.getD_eq_getElem?_getD, List.getElem?_eq_getElem (show a.toNat < may.length by omega)]; rfl
    obtain ⟨vr, hvr, lr, xr, rfl, sqr, hvr2⟩ := hvl_at hvm hrow
    have := hvl_ints hvr2
    subst this
    have hat : atI xm a = some (.ref lr) := by
      have e : a = ((a.toNat : Nat) : Int) := by omega
      rw [e]; exact atI_nat hvr
    have er : givF c may (n + 1) d sn a = thgF (givF c may n) c a (may.getD a.toNat []) d (sn ++ [a]) := rfl
    rw [er] at fin
    generalize hres : thgF (givF c may n) c a (may.getD a.toNat []) d (sn ++ [a]) = res at fin
    generalize may.getD a.toNat [] = row at *
    have sG : ∀ {Hc : Hp}, Md [ld, ls] H Hc → Same G Hc := fun m => md_same sGH gn m
    dsimp only [tSeq]
    refine tFor_list (a := lr) (xs := row.map V.int) ⟨_, rfl, _, rfl, lm, _, a, .ref lr, rfl, rfl, (sG md1).seq sqm, hat, rfl, rfl⟩ (fun R hR => ⟨_, rfl, _, rfl, lm, _, a, .ref lr, rfl, rfl, (sG md1).seq sqm, hat, hR⟩) ((sG md1).seq sqr)
      (fun i σ Hc => ∃ o5 o6 d' s', σ = [some vc, some (.ref lm), some (.ref ld), some (.int a), some (.ref ls), o5, o6] ∧ Md [ld, ls] H Hc ∧ GS ld ls Hc d' s' ∧ GvOk c may d' s' ∧ sn.length + 1 ≤ s'.length ∧ thgF (givF c may n) c a (row.drop i) d' s' = res)
      ⟨none, none, d, sn ++ [a], rfl, md1, gs1, okS, by rw [List.length_append]; exact Nat.le_refl _, hres⟩ (fun i σ Hc _ h => by obtain ⟨_, _, _, _, _, m, _⟩ := h; exact (sG m).seq sqr) ?_ ?_
    · rintro i v σ Hc hv ⟨o5, o6, d', s', rfl, md, g, gok, sl', hr'⟩
      obtain ⟨x, hx, rfl⟩ := map_get hv
      have hxm := ri.2 x (List.mem_of_getElem? hx)
      have hdrop : row.drop i = x :: row.drop (i + 1) := by
        obtain ⟨h1, h2⟩ := List.getElem?_eq_some_iff.mp hx
        rw [List.drop_eq_getElem_cons h1, h2]
      rw [hdrop] at hr'
      dsimp only [gName, List.set]
      refine uT_of (ρ := [some (.fz (dis c)), none, some (.fz (.lst ((d'.map vI).map .fl))), none, none, some (ti x), none]) (Et.to (et_lt (ev_countF (v := .int x) (ev_nm 2 rfl) rfl (ev_nm 5 rfl)) (ev_ix (d := di (lat c x)) (ev_nm 0 rfl) (ev_nm 5 rfl) rfl (lat_at di hxm.1 hxm.2))) (q := decide ((d'.count x : Int) < lat c x)) (by rw [count_vI hxm.1])) (Same.refl Hc) (OwS.rpd (H := Hc) (fp := []) ⟨_, _, [], [], rfl, rfl, ⟨rfl, hc.mono (sG md)⟩, _, _, rfl, _, _, [], [], rfl, rfl, ⟨rfl, ld, _, rfl, SqL.of g.d, hvl_vI d'⟩, _, _, rfl, _, _, rfl, _, _, [], [], rfl, rfl, ⟨rfl, rfl, rfl⟩, _, _, rfl, rfl, rfl⟩) fun G2 H2 st2 => ?_
      have md2 := md.trans (.same st2.h)
      have g2 := g.mono st2.h
      by_cases hlt : (d'.count x : Int) < lat c x
      · rw [if_pos (decide_eq_true hlt)]
        rw [thg_cons, if_pos hlt] at hr'
        refine ⟨_, rfl, _, rfl, _, rfl, ld, _, a, a.toNat, rfl, rfl, g2.d, ?_, ?_⟩
        · rw [List.length_map, gok.dl]
          unfold ixN
          rw [if_pos a0, if_pos a1]
        · rw [← hr'] at fin
          exact fin _ (md2.trans (.upd (.head _))) (g2.put ne hxm.1)
      · rw [if_neg (by rw [decide_eq_false hlt]; decide)]
        rw [thg_cons, if_neg hlt] at hr'
        have hos := hold_ok gok hxm.2
        have dl6 : d'.length ≤ 6 := by rw [gok.dl]; exact A6
        refine uE_of (ρ := [none, none, some (.fz (.lst ((d'.map vI).map .fl))), none, none, some (ti x), none]) (t := tInts (holdF d' x)) (Ev.to (ev_lcf (own := ["holder", "one"]) (fr := [5]) (numsF d'.length) (fun o => .tup [di o, .fl (vI (lat d' o))]) (fun o => decide (lat d' o = x)) ti (fun i => lcs ⟨rfl, rfl, by decide +kernel, by decide +kernel, by decide +kernel, by decide +kernel⟩) (EvI.to (evi_enum T.b_enumerate (ev_nm 2 rfl) rfl) (enum_vI d')) (evg_t2 0 1 (fun _ => by show List.Nodup (["holder", "one", "thing"] : List Str); decide)) (by decide) (by rw [nums_len]; omega) (fun o ho => ⟨_, rfl, by exact el_one (Et.to (et_eqF (ev_nm 1 rfl) (ev_nm 2 rfl) (scal_vI _ _)) (dec_vI hxm.1)), fun _ => by exact ev_nm 0 rfl⟩) (fun dd => by rcases dd with _ | ⟨_, _ | ⟨_, _⟩⟩ <;> rfl)) rfl) (Same.refl H2) (OwS.rpd (H := H2) (fp := []) ⟨_, _, rfl, _, _, rfl, _, _, [], [], rfl, rfl, ⟨rfl, ld, _, rfl, SqL.of g2.d, hvl_vI d'⟩, _, _, rfl, _, _, rfl, _, _, [], [], rfl, rfl, ⟨rfl, rfl, rfl⟩, _, _, rfl, rfl, rfl⟩) fun vo G3 H3 fq3 st3 o3 w3 => ?_
        obtain ⟨lo, xo, fo, rfl, hlo, oo, rfl⟩ := o3
        obtain ⟨rfl, _⟩ := ints_ow oo
        have nlo := w3.n lo (.head _)
        have lod : lo ∉ [ld, ls] := fun z => by
          rcases List.mem_cons.mp z with rfl | z
          · rw [g2.d] at nlo; cases nlo
          · rw [List.mem_singleton.mp z, g2.s] at nlo; cases nlo
        have md3 := md2.trans (.same st3.h)
        have g3 := g2.mono st3.h
        have hmv' : Hv K G (.lst (may.map dis)) (.ref lm) := ⟨lm, xm, rfl, sqm, hvm⟩
        refine ⟨lo, rfl, ⟨_, SqL.of hlo⟩, for_list (fun j σ Hc => ∃ o6 d1 s1, σ = [some vc, some (.ref lm), some (.ref ld), some (.int a), some (.ref ls), some (.int x), o6] ∧ Md [ld, ls] H Hc ∧ Hc lo = some (.lst ((holdF d' x).map V.int)) ∧ GS ld ls Hc d1 s1 ∧ GvOk c may d1 s1 ∧ sn.length + 1 ≤ s1.length ∧ nx1 (givF c may n) c a (row.drop (i + 1)) (othF (givF c may n) a x ((holdF d' x).drop j) d1 s1) = res)
          ⟨o6, d', s', rfl, md3, hlo, g3, gok, sl', hr'⟩ (fun j σ Hc _ h => by obtain ⟨_, _, _, _, _, hl, _⟩ := h; exact SqL.of hl) ?_ ?_⟩
        · rintro j v σ H4 hv ⟨o6, d1, s1, rfl, md4, hl4, g4, gok4, sl4, hr4⟩
          obtain ⟨o, ho, rfl⟩ := map_get hv
          have hom := hos o (List.mem_of_getElem? ho)
          have hdrop4 : (holdF d' x).drop j = o :: (holdF d' x).drop (j + 1) := by
            obtain ⟨h1, h2⟩ := List.getElem?_eq_some_iff.mp ho
            rw [List.drop_eq_getElem_cons h1, h2]
          rw [hdrop4, oth_cons] at hr4
          dsimp only [gName, List.set]
          refine ⟨_, rfl, _, rfl, ls, _, rfl, DGet.k (k := .inl o) g4.s, _, rfl, ?_⟩
          rw [sK_val]
          by_cases hs : s1.contains o = true
          · rw [hs]
            rw [if_pos hs] at hr4
            exact iteF (iteF ⟨_, d1, s1, rfl, md4, hl4, g4, gok4, sl4, hr4⟩)
          · have hsf : s1.contains o = false := by simpa using hs
            rw [hsf]
            rw [if_neg hs] at hr4
            have hno : o ∉ s1 := fun z => hs (by simpa using z)
            have kp := giv_ok io n d1 s1 o gok4 hom.1 hom.2.1 hno hom.2.2
            refine iteT' ?_
            refine ⟨_, rfl, _, rfl, _, rfl, _, rfl, _, rfl, ?_⟩
            dsimp only [tNil, List.cons_append, List.nil_append]
            refine ⟨c, may, vc, .ref lm, ld, ls, G, d1, s1, o, rfl, sG md4, hc, hmv', gn, ne, g4, io, gok4, hom.1, hom.2.1, hno, hom.2.2, by omega, fun H5 md5 g5 => ⟨_, rfl, ?_⟩⟩
            rcases hg : givF c may n d1 s1 o with ⟨b, d2, s2⟩
            rw [hg] at g5 kp hr4
            have md45 := md4.trans md5
            cases b with
            | true =>
              refine iteT' ?_
              refine ⟨_, rfl, _, rfl, _, rfl, ld, _, a, a.toNat, rfl, rfl, g5.d, ?_, ?_⟩
              · rw [List.length_map, kp.ok.dl]
                unfold ixN
                rw [if_pos a0, if_pos a1]
              · have e : res = (true, d2.set a.toNat x, s2) := hr4.symm
                rw [e] at fin
                exact fin _ (md45.trans (.upd (.head _))) (g5.put ne hxm.1)
            | false =>
              exact iteF ⟨_, d2, s2, rfl, md45, md5 _ _ lod hl4, g5, kp.ok, Nat.le_trans sl4 kp.len, hr4⟩
        · rintro σ H4 ⟨o6, d1, s1, rfl, md4, hl4, g4, gok4, sl4, hr4⟩
          rw [List.length_map, List.drop_length] at hr4
          exact ⟨_, _, d1, s1, rfl, md4, g4, gok4, sl4, hr4⟩
    · rintro σ Hc ⟨o5, o6, d', s', rfl, md, g, gok, sl', hr'⟩
      rw [List.length_map, List.drop_length] at hr'
      rw [← hr'] at fin
      exact fin Hc md g
theorem ok_give_thing {f : Addr} {fd : FuncData} {k : Nat} (F : Fun K "give_thing" "give_thing" s_give_thing f fd) (T : Txt mg) (R0 : ∀ sp j, FnOk P w K mg base CX0 j f fd ["counts", "may", "deal", "asker", "seen"] sp → Kn P w K mg base CX0 j "give_thing" f fd ["counts", "may", "deal", "asker", "seen"] sp) : FnOk P w K mg base CX0 (k + 8) f fd ["counts", "may", "deal", "asker", "seen"] (spGive K 7) := by
  exact okr_give_thing F T R0 7
end
end K35
namespace K35
open PySem L2 Fra
section
variable {P : Program} {w : World} {K : PySem.W.Frag} {mg : Str → Option Value} {base : Heap}
mutual
noncomputable def outL (rec : List Int → List Int → Int → Rs) (must : List Int) (x : Int) : List (List Int) → Int → List Int → List Int → Rs
  | [], _, d, s => (false, d, s)
  | r :: rs, a, d, s => if r.contains x && !s.contains (lat d a) then (if must.contains (lat d a) then (if (rec d s (lat d a)).1 = true then (true, (rec d s (lat d a)).2.1.set a.toNat x, (rec d s (lat d a)).2.2) else outL rec must x rs (a + 1) (rec d s (lat d a)).2.1 (rec d s (lat d a)).2.2) else (true, d.set a.toNat x, s)) else outL rec must x rs (a + 1) d s
end
def outF (may : List (List Int)) (must : List Int) : Nat → List Int → List Int → Int → Rs
  | 0, d, s, _ => (false, d, s)
  | f + 1, d, s, x => outL (outF may must f) must x may 0 d (s ++ [x])
structure OtOk (n A : Nat) (d s : List Int) : Prop where
  dl : d.length = A
  dr : ∀ y ∈ d, 0 ≤ y ∧ y ≤ n
  sr : ∀ y ∈ s, 0 ≤ y ∧ y < n
  sn : s.Nodup
structure Kp2 (n A : Nat) (s : List Int) (r : Rs) : Prop where
  ok : OtOk n A r.2.1 r.2.2
  sub : ∀ x ∈ s, x ∈ r.2.2
  len : s.length ≤ r.2.2.length
theorem OtOk.put {n A : Nat} {d s : List Int} (h : OtOk n A d s) {a : Nat} {x : Int} (x0 : 0 ≤ x) (x1 : x ≤ n) : OtOk n A (d.set a x) s := by
  refine ⟨by rw [List.length_set]; exact h.dl, fun y hy => ?_, h.sr, h.sn⟩
  rcases List.mem_or_eq_of_mem_set hy with z | rfl
  · exact h.dr y z
  · exact ⟨x0, x1⟩
theorem OtOk.see {n A : Nat} {d s : List Int} (h : OtOk n A d s) {x : Int} (x0 : 0 ≤ x) (x1 : x < n) (nx : x ∉ s) : OtOk n A d (s ++ [x]) :=
  ⟨h.dl, h.dr, fun y hy => by
    rcases List.mem_append.mp hy with z | z
    · exact h.sr y z
    · rw [List.mem_singleton.mp z]; exact ⟨x0, x1⟩, List.nodup_append.mpr ⟨h.sn, by simp, fun y hy z hz e => by
      rw [List.mem_singleton.mp hz] at e
      exact nx (e ▸ hy)⟩⟩
theorem outL_ok {n A : Nat} {must : List Int} {rec : List Int → List Int → Int → Rs} {x : Int} (x0 : 0 ≤ x) (x1 : x < n) (hmu : ∀ y ∈ must, 0 ≤ y ∧ y < (n : Int))
    (hrec : ∀ (d s : List Int) (y : Int), OtOk n A d s → 0 ≤ y → y < n → y ∉ s → Kp2 n A s (rec d s y)) : ∀ (rs : List (List Int)) (a : Int) (d s : List Int), OtOk n A d s → Kp2 n A s (outL rec must x rs a d s)
  | [], a, d, s, h => ⟨h, fun _ z => z, Nat.le_refl _⟩
  | r :: rs, a, d, s, h => by
    unfold outL
    by_cases h1 : (r.contains x && !s.contains (lat d a)) = true
    · rw [if_pos h1]
      by_cases h2 : must.contains (lat d a) = true
      · rw [if_pos h2]
        have hy := hmu (lat d a) (by simpa using h2)
        have hn : lat d a ∉ s := fun z => by
          rw [Bool.and_eq_true] at h1
          have := h1.2
          simp at this
          exact this z
        have kp := hrec d s (lat d a) h hy.1 hy.2 hn
        generalize rec d s (lat d a) = q at kp
        by_cases h3 : q.1 = true
        · rw [if_pos h3]
          exact ⟨kp.ok.put x0 (by omega), kp.sub, kp.len⟩
        · rw [if_neg h3]
          have ih := outL_ok x0 x1 hmu hrec rs (a + 1) q.2.1 q.2.2 kp.ok
          exact ⟨ih.ok, fun y hy => ih.sub y (kp.sub y hy), Nat.le_trans kp.len ih.len⟩
      · rw [if_neg h2]
        exact ⟨h.put x0 (by omega), fun _ z => z, Nat.le_refl _⟩
    · rw [if_neg h1]
      exact outL_ok x0 x1 hmu hrec rs (a + 1) d s h
theorem outF_ok {n A : Nat} {may : List (List Int)} {must : List Int} (hmu : ∀ y ∈ must, 0 ≤ y ∧ y < (n : Int)) : ∀ (f : Nat) (d s : List Int) (x : Int), OtOk n A d s → 0 ≤ x → x < n → x ∉ s → Kp2 n A s (outF may must f d s x)
  | 0, d, s, x, h, _, _, _ => ⟨h, fun _ z => z, Nat.le_refl _⟩
  | f + 1, d, s, x, h, x0, x1, nx => by
    have hk := outL_ok x0 x1 hmu (fun d s y h y0 y1 ny => outF_ok (may := may) hmu f d s y h y0 y1 ny) may 0 d (s ++ [x]) (h.see x0 x1 nx)
    exact ⟨hk.ok, fun y hy => hk.sub y (List.mem_append_left _ hy), Nat.le_trans (by rw [List.length_append]; omega) hk.len⟩
abbrev s_deal_out : Stmt := top 2
theorem sc_deal_out : FnScope ["may", "must", "deal", "thing", "seen", "asker", "some", "had"] ["may", "must", "deal", "thing", "seen"] (defScope s_deal_out) := ⟨rfl, rfl, rfl, by decide +kernel, rfl, by decide +kernel, by decide +kernel⟩
def spOut (K : PySem.W.Frag) (f : Nat) : Sp := fun vs H Q _ => ∃ (nn : Nat) (may : List (List Int)) (must : List Int) (vm vu : V) (ld ls : Addr) (G : Hp) (d s : List Int) (x : Int), vs = [vm, vu, .ref ld, .int x, .ref ls] ∧ Same G H ∧ Hv K G (.lst (may.map dis)) vm ∧ Hv K G (dis must) vu ∧ (∀ b ∈ [ld, ls], G b = none) ∧ ld ≠ ls ∧ GS ld ls H d s ∧ may.length ≤ 6 ∧ nn ≤ 6 ∧ (∀ y ∈ must, 0 ≤ y ∧ y < (nn : Int)) ∧ OtOk nn may.length d s ∧ 0 ≤ x ∧ x < nn ∧ x ∉ s ∧ nn ≤ f + s.length ∧
  ∀ H', Md [ld, ls] H H' → GS ld ls H' (outF may must f d s x).2.1 (outF may must f d s x).2.2 → Q (.bl (outF may must f d s x).1) H'
theorem okr_deal_out {f : Addr} {fd : FuncData} {k : Nat} (F : Fun K "deal_out" "deal_out" s_deal_out f fd) (T : Txt mg) (Kn0 : ∀ sp j, FnOk P w K mg base CX0 j f fd ["may", "must", "deal", "thing", "seen"] sp → Kn P w K mg base CX0 j "deal_out" f fd ["may", "must", "deal", "thing", "seen"] sp) : ∀ n, FnOk P w K mg base CX0 (k + n + 1) f fd ["may", "must", "deal", "thing", "seen"] (spOut K n)
  | 0 => by
    refine F.ok sc_deal_out (fun vs H Q E h => by obtain ⟨_, _, _, _, _, _, _, _, _, _, _, rfl, _⟩ := h; rfl) fun cdv A outer s H vs Q E hr h => ?_
    obtain ⟨nn, may, must, vm, vu, ld, ls, G, d, sn, x, rfl, sGH, hmv, hc, gn, ne, gs, A6, n6, hmu, ok, x0, x1, nx, fu, fin⟩ := h
    have := seen_le (fun y hy => (ok.see x0 x1 nx).sr y hy) (ok.see x0 x1 nx).sn
    rw [List.length_append, List.length_singleton] at this
    omega
  | n + 1 => by
    have ih := okr_deal_out (k := k) F T Kn0 n
    refine F.ok sc_deal_out (fun vs H Q E h => by obtain ⟨_, _, _, _, _, _, _, _, _, _, _, rfl, _⟩ := h; rfl) fun cdv A outer s H vs Q E hr h => ?_
    obtain ⟨nn, may, must, vm, vu, ld, ls, G, d, sn, x, rfl, sGH, hmv, hc, gn, ne, gs, A6, n6, hmu, ok, x0, x1, nx, fu, fin⟩ := h
    have big : 1000 < sizeLine := by decide
    have hu : ((cxOf CX0 P w K mg base ["may", "must", "deal", "thing", "seen", "asker", "some", "had"] "deal_out" (defScope s_deal_out) f cdv A outer s H E).nox).A.units + 1 < cLine := Nat.lt_of_le_of_lt (Nat.add_le_add_left (show 1 ≤ 64 by decide) _) hr.units
    refine ⟨_, pss_cons (ps_dput hu (pv 4) (pv 3) pe_bl rfl) (pss_cons (ps_for PassesOwn.never rfl (pi_enum (by rfl) T.b_enumerate (pa_cons (pv 0) pa_nil)) (pg_tup rfl (pgs_cons (pg_name (i := 5) sc_deal_out.nd rfl (by first | exact Or.inl rfl | exact Or.inr rfl)) (pgs_cons (pg_name (i := 6) sc_deal_out.nd rfl (by first | exact Or.inl rfl | exact Or.inr rfl)) pgs_nil)))
      (pss_cons (ps_set (i := 7) sc_deal_out.nd rfl (by first | exact Or.inl rfl | exact Or.inr rfl) (pe_ix ix_list (pv 2) (pv 5) (fun _ _ => rfl)))
      (pss_one (ps_if (PW.pt (pw_and (uT_ok (F := famD P w K mg base ["may", "must", "deal", "thing", "seen", "asker", "some", "had"] "deal_out" (defScope s_deal_out) f (k + n + 1)) ⟨cdv, A, outer, s, H, E, hr⟩) (pw_and1 (pt_cmp (pc_dnotin hu (pv 7) (pv 4)) rfl))))
        (pss_one (ps_if (PW.pt (pw_or (uT_ok (F := famD P w K mg base ["may", "must", "deal", "thing", "seen", "asker", "some", "had"] "deal_out" (defScope s_deal_out) f (k + n + 1)) ⟨cdv, A, outer, s, H, E, hr⟩) (pw_or1 (pt_val (pe_kn (Kn0 _ _ ih) hr (by rfl) (pa_cons (pv 0) (pa_cons (pv 1) (pa_cons (pv 2) (pa_cons (pv 7) (pa_cons (pv 4) pa_nil)))))))))) (pss_cons (ps_asg (pv 3) (pg_sub (pv 2) (pv 5) set_list)) (pss_one (ps_ret pe_bl))) pss_nil)) pss_nil)))) (pss_one (ps_ret pe_bl))), ?_⟩
    show tSeq _ _ _ [some vm, some vu, some (.ref ld), some (.int x), some (.ref ls), none, none, none] H
    have okS := ok.see x0 x1 nx
    have sl := seen_le okS.sr okS.sn
    rw [List.length_append, List.length_singleton] at sl
    refine ⟨_, rfl, _, rfl, ls, _, rfl, DPut.k (k := .inl x) gs.s (by unfold sK; rw [List.length_map]; omega), ?_⟩
    rw [sK_put nx]
    have gs1 : GS ld ls (upd H ls (.dK (sK (sn ++ [x])))) d (sn ++ [x]) := ⟨by rw [upd_ne ne]; exact gs.d, upd_same⟩
    have md1 : Md [ld, ls] H (upd H ls (.dK (sK (sn ++ [x])))) := .upd (.tail _ (.head _))
    generalize upd H ls (.dK (sK (sn ++ [x]))) = H1 at gs1 md1
    obtain ⟨lm, xm, rfl, sqm, hvm⟩ := hmv
    have hmv' : Hv K G (.lst (may.map dis)) (.ref lm) := ⟨lm, xm, rfl, sqm, hvm⟩
    have xml : xm.length = may.length := by rw [← hvm.length, List.length_map]
    have er : outF may must (n + 1) d sn x = outL (outF may must n) must x (may.drop 0) ((0 : Nat) : Int) d (sn ++ [x]) := rfl
    rw [er] at fin
    generalize hres : outL (outF may must n) must x (may.drop 0) ((0 : Nat) : Int) d (sn ++ [x]) = res at fin
    have sG : ∀ {Hc : Hp}, Md [ld, ls] H Hc → Same G Hc := fun m => md_same sGH gn m
    have hld : ld ∈ [ld, ls] := .head _
    have hls : ls ∈ [ld, ls] := .tail _ (.head _)
    dsimp only [tSeq]
    refine ⟨_, rfl, lm, xm, rfl, (sG md1).seq sqm, ?_⟩
    refine for_enum (fun i σ Hc => ∃ o5 o6 o7 d' s', σ = [some (.ref lm), some vu, some (.ref ld), some (.int x), some (.ref ls), o5, o6, o7] ∧ Md [ld, ls] H Hc ∧ GS ld ls Hc d' s' ∧ OtOk nn may.length d' s' ∧ sn.length + 1 ≤ s'.length ∧ outL (outF may must n) must x (may.drop i) (i : Nat) d' s' = res)
      ⟨none, none, none, d, sn ++ [x], rfl, md1, gs1, okS, by rw [List.length_append]; exact Nat.le_refl _, hres⟩ (fun i σ Hc _ h => by obtain ⟨_, _, _, _, _, _, m, _⟩ := h; exact (sG m).seq sqm) ?_ ?_
    · rintro i v σ Hc0 Tt hv ⟨o5, o6, o7, d', s', rfl, md0, g0, gok, sl', hr'⟩ hT
      have hi : i < may.length := by rw [← xml]; exact (List.getElem?_eq_some_iff.mp hv).1
      have hrow : (may.map dis)[i]? = some (dis may[i]) := by rw [List.getElem?_map, List.getElem?_eq_getElem hi]; rfl
      obtain ⟨vr, hvr, hvr2⟩ := hvl_at hvm hrow
      rw [hv] at hvr
      cases hvr
      generalize hrw : may[i] = row at *
      have hdrop : may.drop i = row :: may.drop (i + 1) := by rw [List.drop_eq_getElem_cons hi, hrw]
      rw [hdrop] at hr'
      have hne : Tt ≠ ld ∧ Tt ≠ ls := ⟨fun z => (by rw [z, g0.d] at hT; cases hT), fun z => (by rw [z, g0.s] at hT; cases hT)⟩
      have md : Md [ld, ls] H (upd Hc0 Tt (.tup [.int (i : Nat), v])) := md0.trans (.new hT)
      have g : GS ld ls (upd Hc0 Tt (.tup [.int (i : Nat), v])) d' s' := ⟨by rw [upd_ne (Ne.symm hne.1)]; exact g0.d, by rw [upd_ne (Ne.symm hne.2)]; exact g0.s⟩
      have hTt : upd Hc0 Tt (.tup [.int (i : Nat), v]) Tt = some (.tup [.int (i : Nat), v]) := upd_same
      generalize upd Hc0 Tt (.tup [.int (i : Nat), v]) = Hc at md g hTt
      have i0 : (0 : Int) ≤ (i : Nat) := by omega
      have i1 : ((i : Nat) : Int) < d'.length := by rw [gok.dl]; omega
      have hy := gok.dr _ (lat_mem i0 i1)
      have hat : atI (d'.map vI) (i : Nat) = some (.int (lat d' (i : Nat))) := by rw [lat_at vI i0 i1, vI_pos hy.1]
      unfold outL at hr'
      generalize hyy : lat d' ((i : Nat) : Int) = y at *
      refine ⟨Tt, _, rfl, SqT.of hTt, rfl, _, _, rfl, _, _, rfl, rfl, ?_⟩
      dsimp only [gName, List.set]
      refine ⟨_, rfl, _, rfl, ld, _, _, .int y, rfl, rfl, SqL.of g.d, hat, ?_⟩
      dsimp only [gName, List.set]
      refine uT_of (ρ := [none, none, none, some (ti x), none, none, some (.fz (dis row)), none]) (et_in (ev_nm 3 rfl) (ev_nm 6 rfl) rfl (by with_unfolding_all rfl)) (Same.refl Hc) (OwS.rpd (H := Hc) (fp := []) ⟨_, _, rfl, _, _, rfl, _, _, rfl, _, _, [], [], rfl, rfl, ⟨rfl, rfl, rfl⟩, _, _, rfl, _, _, rfl, _, _, [], [], rfl, rfl, ⟨rfl, hvr2.mono (sG md)⟩, _, _, rfl, rfl, rfl⟩) fun G2 H2 st2 => ?_
      have md2 := md.trans (.same st2.h)
      have g2 := g.mono st2.h
      have ei : ((i + 1 : Nat) : Int) = ((i : Nat) : Int) + 1 := by omega
      rw [← ei] at hr'
      have ixi : ∀ {m : Nat}, m = may.length → ixN m ((i : Nat) : Int) = some i := fun {m} hm => by
        unfold ixN
        rw [if_pos i0, if_pos (by omega)]; rfl
      by_cases h1 : row.contains x = true
      · rw [h1] at hr' ⊢
        refine iteT ?_
        refine ⟨_, rfl, _, rfl, ls, _, rfl, DGet.k (k := .inl y) g2.s, _, rfl, ?_⟩
        rw [sK_val]
        by_cases h2 : s'.contains y = true
        · rw [h2] at hr' ⊢
          exact iteF ⟨_, _, _, d', s', rfl, md2, g2, gok, sl', hr'⟩
        · have h2f : s'.contains y = false := by simpa using h2
          rw [h2f] at hr' ⊢
          have hr2 : (if must.contains y = true then (if (outF may must n d' s' y).1 = true then (true, (outF may must n d' s' y).2.1.set i x, (outF may must n d' s' y).2.2) else outL (outF may must n) must x (may.drop (i + 1)) ((i + 1 : Nat) : Int) (outF may must n d' s' y).2.1 (outF may must n d' s' y).2.2) else (true, d'.set i x, s')) = res := hr'
          refine iteT ?_
          refine uT_of (ρ := [none, some (.fz (dis must)), none, none, none, none, none, some (ti y)]) (et_notin (ev_nm 7 rfl) (ev_nm 1 rfl) rfl (by with_unfolding_all rfl)) (Same.refl H2) (OwS.rpd (H := H2) (fp := []) ⟨_, _, rfl, _, _, [], [], rfl, rfl, ⟨rfl, hc.mono (sG md2)⟩, _, _, rfl, _, _, rfl, _, _, rfl, _, _, rfl, _, _, rfl, _, _, [], [], rfl, rfl, ⟨rfl, rfl, rfl⟩, rfl, rfl⟩) fun G3 H3 st3 => ?_
          have md3 := md2.trans (.same st3.h)
          have g3 := g2.mono st3.h
          by_cases h3 : must.contains y = true
          · rw [h3]
            rw [if_pos h3] at hr2
            have hyn := hmu y (by simpa using h3)
            have hno : y ∉ s' := fun z => h2 (by simpa using z)
            have kp := outF_ok (may := may) hmu n d' s' y gok hyn.1 hyn.2 hno
            refine iteF ?_
            refine ⟨_, rfl, _, rfl, _, rfl, _, rfl, _, rfl, ?_⟩
            dsimp only [tNil, List.cons_append, List.nil_append]
            refine ⟨nn, may, must, .ref lm, vu, ld, ls, G, d', s', y, rfl, sG md3, hmv', hc, gn, ne, g3, A6, n6, hmu, gok, hyn.1, hyn.2, hno, by omega, fun H5 md5 g5 => ⟨_, rfl, ?_⟩⟩
            rcases hg : outF may must n d' s' y with ⟨b, d2, s2⟩
            rw [hg] at g5 kp hr2
            have md45 := md3.trans md5
            cases b with
            | true =>
              refine iteT ?_
              refine ⟨_, rfl, _, rfl, _, rfl, ld, _, _, i, rfl, rfl, g5.d, ixi (by rw [List.length_map]; exact kp.ok.dl), ?_⟩
              have e : res = (true, d2.set i x, s2) := hr2.symm
              rw [e] at fin
              exact fin _ (md45.trans (.upd (.head _))) (g5.put (a := ((i : Nat) : Int)) ne x0)
            | false =>
              exact iteF ⟨_, _, _, d2, s2, rfl, md45, g5, kp.ok, Nat.le_trans sl' kp.len, hr2⟩
          · have h3f : must.contains y = false := by simpa using h3
            rw [h3f]
            rw [if_neg h3] at hr2
            refine iteT (iteT ?_)
            refine ⟨_, rfl, _, rfl, _, rfl, ld, _, _, i, rfl, rfl, g3.d, ixi (by rw [List.length_map]; exact gok.dl), ?_⟩
            rw [← hr2] at fin
            exact fin _ (md3.trans (.upd (.head _))) (g3.put (a := ((i : Nat) : Int)) ne x0)
      · have h1f : row.contains x = false := by simpa using h1
        rw [h1f] at hr' ⊢
        exact iteF (iteF ⟨_, _, _, d', s', rfl, md2, g2, gok, sl', hr'⟩)
    · rintro σ Hc ⟨o5, o6, o7, d', s', rfl, md, g, gok, sl', hr'⟩
      rw [xml, List.drop_length] at hr'
      rw [← hr'] at fin
      exact fin Hc md g
theorem ok_deal_out {f : Addr} {fd : FuncData} {k : Nat} (F : Fun K "deal_out" "deal_out" s_deal_out f fd) (T : Txt mg) (R0 : ∀ sp j, FnOk P w K mg base CX0 j f fd ["may", "must", "deal", "thing", "seen"] sp → Kn P w K mg base CX0 j "deal_out" f fd ["may", "must", "deal", "thing", "seen"] sp) : FnOk P w K mg base CX0 (k + 8) f fd ["may", "must", "deal", "thing", "seen"] (spOut K 7) := by
  exact okr_deal_out F T R0 7
end
end K35
namespace K35
open PySem L2 Fra
section
variable {P : Program} {w : World} {K : PySem.W.Frag} {mg : Str → Option Value} {base : Heap}
theorem count_setI {x v : Int} : ∀ {l : List Int} {a : Nat} {u : Int}, l[a]? = some u → ((l.set a v).count x : Int) + (if u = x then 1 else 0) = (l.count x : Int) + (if v = x then 1 else 0)
  | [], a, u, h => by cases a <;> cases h
  | y :: l, 0, u, h => by
    cases h
    rw [List.set_cons_zero, List.count_cons, List.count_cons]
    by_cases h1 : y = x
    · by_cases h2 : v = x
      · rw [if_pos h1, if_pos h2, if_pos (by simpa using h2), if_pos (by simpa using h1)]
      · rw [if_pos h1, if_neg h2, if_neg (by simpa using h2), if_pos (by simpa using h1)]; omega
    · by_cases h2 : v = x
      · rw [if_neg h1, if_pos h2, if_pos (by simpa using h2), if_neg (by simpa using h1)]; omega
      · rw [if_neg h1, if_neg h2, if_neg (by simpa using h2), if_neg (by simpa using h1)]
  | y :: l, a + 1, u, h => by
    have ih := count_setI (x := x) (v := v) (l := l) (a := a) (u := u) h
    rw [List.set_cons_succ, List.count_cons, List.count_cons]
    omega
theorem lat_get {d : List Int} {a : Int} (a0 : 0 ≤ a) (a1 : a < d.length) : d[a.toNat]? = some (lat d a) := by
  unfold lat
  rw [List.getD_eq_getElem?_getD, List.getElem?_eq_getElem (show a.toNat < d.length by omega)]; rfl
structure Tr1 (may : List (List Int)) (must s : List Int) (x : Int) (d d' : List Int) : Prop where
  z : ∃ z, z ∉ must ∧ ∀ y, (d'.count y : Int) + (if z = y then 1 else 0) = d.count y + (if x = y then 1 else 0)
  keep : ∀ a : Int, 0 ≤ a → a < d.length → lat d a ∈ s → lat d' a = lat d a
  may' : ∀ a : Int, 0 ≤ a → a < d.length → lat d' a = lat d a ∨ lat d' a ∈ may.getD a.toNat []
  dl : d'.length = d.length
theorem outL_false {must : List Int} {rec : List Int → List Int → Int → Rs} {x : Int} (hrec : ∀ d s y, (rec d s y).1 = false → (rec d s y).2.1 = d) : ∀ (rs : List (List Int)) (a : Int) (d s : List Int), (outL rec must x rs a d s).1 = false → (outL rec must x rs a d s).2.1 = d
  | [], a, d, s, _ => rfl
  | r :: rs, a, d, s, h => by
    unfold outL at h ⊢
    by_cases h1 : (r.contains x && !s.contains (lat d a)) = true
    · rw [if_pos h1] at h ⊢
      by_cases h2 : must.contains (lat d a) = true
      · rw [if_pos h2] at h ⊢
        by_cases h3 : (rec d s (lat d a)).1 = true
        · rw [if_pos h3] at h; cases h
        · rw [if_neg h3] at h ⊢
          have := outL_false hrec rs (a + 1) _ _ h
          rw [this]
          exact hrec d s _ (by simpa using h3)
      · rw [if_neg h2] at h; cases h
    · rw [if_neg h1] at h ⊢
      exact outL_false hrec rs (a + 1) d s h
theorem outF_false {may : List (List Int)} {must : List Int} : ∀ (f : Nat) (d s : List Int) (x : Int), (outF may must f d s x).1 = false → (outF may must f d s x).2.1 = d
  | 0, _, _, _, _ => rfl
  | f + 1, d, s, x, h => outL_false (fun d s y => outF_false f d s y) may 0 d (s ++ [x]) h
theorem outL_sub {must : List Int} {rec : List Int → List Int → Int → Rs} {x : Int} (hrec : ∀ d s y, ∀ v ∈ s, v ∈ (rec d s y).2.2) : ∀ (rs : List (List Int)) (a : Int) (d s : List Int), ∀ v ∈ s, v ∈ (outL rec must x rs a d s).2.2
  | [], a, d, s, v, h => h
  | r :: rs, a, d, s, v, h => by
    unfold outL
    by_cases h1 : (r.contains x && !s.contains (lat d a)) = true
    · rw [if_pos h1]
      by_cases h2 : must.contains (lat d a) = true
      · rw [if_pos h2]
        by_cases h3 : (rec d s (lat d a)).1 = true
        · rw [if_pos h3]; exact hrec d s _ v h
        · rw [if_neg h3]; exact outL_sub hrec rs (a + 1) _ _ v (hrec d s _ v h)
      · rw [if_neg h2]; exact h
    · rw [if_neg h1]; exact outL_sub hrec rs (a + 1) d s v h
theorem outF_sub {may : List (List Int)} {must : List Int} : ∀ (f : Nat) (d s : List Int) (x : Int), ∀ v ∈ s, v ∈ (outF may must f d s x).2.2
  | 0, _, _, _, _, h => h
  | f + 1, d, s, x, v, h => outL_sub (fun d s y => outF_sub f d s y) may 0 d (s ++ [x]) v (List.mem_append_left _ h)
theorem outL_true {may : List (List Int)} {must : List Int} {rec : List Int → List Int → Int → Rs} {x : Int} (hf : ∀ d s y, (rec d s y).1 = false → (rec d s y).2.1 = d) (hs : ∀ d s y, ∀ v ∈ s, v ∈ (rec d s y).2.2)
    (hrec : ∀ d s y, d.length = may.length → (rec d s y).1 = true → Tr1 may must (s ++ [y]) y d (rec d s y).2.1) :
    ∀ (rs : List (List Int)) (a : Nat) (d s : List Int), may.drop a = rs → d.length = may.length → x ∈ s → (outL rec must x rs a d s).1 = true → Tr1 may must s x d (outL rec must x rs a d s).2.1
  | [], a, d, s, _, _, _, h => by cases h
  | r :: rs, a, d, s, hm, dl, hx, h => by
    have ha : a < may.length := by
      rcases Nat.lt_or_ge a may.length with z | z
      · exact z
      · rw [List.drop_of_length_le z] at hm; cases hm
    have hm2 : may[a] = r ∧ may.drop (a + 1) = rs := by
      rw [List.drop_eq_getElem_cons ha] at hm
      injection hm with e1 e2
      exact ⟨e1, e2⟩
    have hrow : may.getD ((a : Nat) : Int).toNat [] = r := by rw [Int.toNat_natCast, List.getD_eq_getElem?_getD, List.getElem?_eq_getElem ha, hm2.1]; rfl
    have ea : ((a + 1 : Nat) : Int) = (a : Int) + 1 := by omega
    have a0 : (0 : Int) ≤ a := by omega
    have a1 : (a : Int) < d.length := by rw [dl]; omega
    unfold outL at h ⊢
    by_cases h1 : (r.contains x && !s.contains (lat d a)) = true
    · rw [if_pos h1] at h ⊢
      rw [Bool.and_eq_true] at h1
      have hxr : x ∈ r := by simpa using h1.1
      have hns : lat d a ∉ s := by simpa using h1.2
      have fin : ∀ d1 : List Int, d1.length = d.length → lat d1 a = lat d a → (∀ b : Int, 0 ≤ b → b < d.length → lat d b ∈ s → lat d1 b = lat d b) → (∀ b : Int, 0 ≤ b → b < d.length → lat d1 b = lat d b ∨ lat d1 b ∈ may.getD b.toNat []) → (∃ z, z ∉ must ∧ ∀ y, (d1.count y : Int) + (if z = y then 1 else 0) = d.count y + (if lat d a = y then 1 else 0)) → Tr1 may must s x d (d1.set (a : Int).toNat x) := fun d1 l1 e1 k1 m1 ⟨z, hz1, hz2⟩ => by
        refine ⟨⟨z, hz1, fun y => ?_⟩, fun b b0 b1 hb => ?_, fun b b0 b1 => ?_, by rw [List.length_set]; exact l1⟩
        · have g := lat_get (d := d1) a0 (by rw [l1]; exact a1)
          rw [e1] at g
          have c1 := count_setI (x := y) (v := x) g
          have c2 := hz2 y
          omega
        · rw [lat_set a0 b0 (by rw [l1]; exact b1), if_neg (fun e => hns (by rw [e]; exact hb))]
          exact k1 b b0 b1 hb
        · rw [lat_set a0 b0 (by rw [l1]; exact b1)]
          by_cases e : (a : Int) = b
          · rw [if_pos e]
            right
            rw [← e, hrow]; exact hxr
          · rw [if_neg e]; exact m1 b b0 b1
      by_cases h2 : must.contains (lat d a) = true
      · rw [if_pos h2] at h ⊢
        by_cases h3 : (rec d s (lat d a)).1 = true
        · rw [if_pos h3]
          have T := hrec d s _ dl h3
          exact fin _ T.dl (T.keep a a0 a1 (List.mem_append_right _ (.head _))) (fun b b0 b1 hb => T.keep b b0 b1 (List.mem_append_left _ hb)) T.may' T.z
        · rw [if_neg h3] at h ⊢
          have e := hf d s _ (by simpa using h3)
          rw [e] at h ⊢
          rw [← ea] at h ⊢
          have T := outL_true hf hs hrec rs (a + 1) d _ hm2.2 dl (hs d s _ x hx) h
          exact ⟨T.z, fun b b0 b1 hb => T.keep b b0 b1 (hs d s _ _ hb), T.may', T.dl⟩
      · rw [if_neg h2]
        exact fin d rfl rfl (fun _ _ _ _ => rfl) (fun _ _ _ => .inl rfl) ⟨lat d a, by simpa using h2, fun y => rfl⟩
    · rw [if_neg h1] at h ⊢
      rw [← ea] at h ⊢
      exact outL_true hf hs hrec rs (a + 1) d s hm2.2 dl hx h
theorem outF_true {may : List (List Int)} {must : List Int} : ∀ (f : Nat) (d s : List Int) (x : Int), d.length = may.length → (outF may must f d s x).1 = true → Tr1 may must (s ++ [x]) x d (outF may must f d s x).2.1
  | 0, _, _, _, _, h => by cases h
  | f + 1, d, s, x, dl, h => outL_true (fun d s y => outF_false f d s y) (fun d s y => outF_sub f d s y) (fun d s y dl h => outF_true f d s y dl h) may 0 d (s ++ [x]) rfl dl (List.mem_append_right _ (.head _)) h
theorem oth_false {rec : List Int → List Int → Int → Rs} {a x : Int} (hrec : ∀ d s o, (rec d s o).1 = false → (rec d s o).2.1 = d) : ∀ (os d s : List Int), (othF rec a x os d s).1 = false → (othF rec a x os d s).2.1 = d
  | [], d, s, _ => rfl
  | o :: os, d, s, h => by
    rw [oth_cons] at h ⊢
    by_cases hs : s.contains o = true
    · rw [if_pos hs] at h ⊢
      exact oth_false hrec os d s h
    · rw [if_neg hs] at h ⊢
      unfold nx2 at h ⊢
      by_cases hr : (rec d s o).1 = true
      · rw [if_pos hr] at h; cases h
      · rw [if_neg hr] at h ⊢
        have e := hrec d s o (by simpa using hr)
        rw [e] at h ⊢
        exact oth_false hrec os d _ h
theorem thg_false {rec : List Int → List Int → Int → Rs} {c : List Int} {a : Int} (hrec : ∀ d s o, (rec d s o).1 = false → (rec d s o).2.1 = d) : ∀ (xs d s : List Int), (thgF rec c a xs d s).1 = false → (thgF rec c a xs d s).2.1 = d
  | [], d, s, _ => rfl
  | x :: xs, d, s, h => by
    rw [thg_cons] at h ⊢
    by_cases hc : (d.count x : Int) < lat c x
    · rw [if_pos hc] at h; cases h
    · rw [if_neg hc] at h ⊢
      unfold nx1 at h ⊢
      by_cases hr : (othF rec a x (holdF d x) d s).1 = true
      · rw [if_pos hr, hr] at h; cases h
      · rw [if_neg hr] at h ⊢
        have e := oth_false hrec _ d s (by simpa using hr)
        rw [e] at h ⊢
        exact thg_false hrec xs d _ h
theorem giv_false {c : List Int} {may : List (List Int)} : ∀ (f : Nat) (d s : List Int) (a : Int), (givF c may f d s a).1 = false → (givF c may f d s a).2.1 = d
  | 0, _, _, _, _ => rfl
  | f + 1, d, s, a, h => thg_false (fun d s o => giv_false f d s o) _ d (s ++ [a]) h
theorem oth_sub {rec : List Int → List Int → Int → Rs} {a x : Int} (hrec : ∀ d s o, ∀ v ∈ s, v ∈ (rec d s o).2.2) : ∀ (os d s : List Int), ∀ v ∈ s, v ∈ (othF rec a x os d s).2.2
  | [], d, s, v, h => h
  | o :: os, d, s, v, h => by
    rw [oth_cons]
    by_cases hs : s.contains o = true
    · rw [if_pos hs]; exact oth_sub hrec os d s v h
    · rw [if_neg hs]
      unfold nx2
      by_cases hr : (rec d s o).1 = true
      · rw [if_pos hr]; exact hrec d s o v h
      · rw [if_neg hr]; exact oth_sub hrec os _ _ v (hrec d s o v h)
theorem thg_sub {rec : List Int → List Int → Int → Rs} {c : List Int} {a : Int} (hrec : ∀ d s o, ∀ v ∈ s, v ∈ (rec d s o).2.2) : ∀ (xs d s : List Int), ∀ v ∈ s, v ∈ (thgF rec c a xs d s).2.2
  | [], d, s, v, h => h
  | x :: xs, d, s, v, h => by
    rw [thg_cons]
    by_cases hc : (d.count x : Int) < lat c x
    · rw [if_pos hc]; exact h
    · rw [if_neg hc]
      unfold nx1
      by_cases hr : (othF rec a x (holdF d x) d s).1 = true
      · rw [if_pos hr]; exact oth_sub hrec _ d s v h
      · rw [if_neg hr]; exact thg_sub hrec xs _ _ v (oth_sub hrec _ d s v h)
theorem giv_sub {c : List Int} {may : List (List Int)} : ∀ (f : Nat) (d s : List Int) (a : Int), ∀ v ∈ s, v ∈ (givF c may f d s a).2.2
  | 0, _, _, _, _, h => h
  | f + 1, d, s, a, v, h => thg_sub (fun d s o => giv_sub f d s o) _ d (s ++ [a]) v (List.mem_append_left _ h)
def NoOk (c : List Int) (may : List (List Int)) (d : List Int) : Prop := ∀ a : Int, 0 ≤ a → a < may.length → (c.length : Int) ∈ may.getD a.toNat [] → lat d a = c.length
structure Tr2 (c : List Int) (may : List (List Int)) (s : List Int) (a : Int) (d d' : List Int) : Prop where
  z : ∃ z : Int, (d.count z : Int) < lat c z ∧ 0 ≤ z ∧ z < c.length ∧ ∀ y, (d'.count y : Int) + (if lat d a = y then 1 else 0) = d.count y + (if z = y then 1 else 0)
  keep : ∀ b : Int, 0 ≤ b → b < d.length → b ∈ s → b ≠ a → lat d' b = lat d b
  may' : ∀ b : Int, 0 ≤ b → b < d.length → lat d' b = lat d b ∨ lat d' b ∈ may.getD b.toNat []
  self : lat d' a ∈ may.getD a.toNat []
  dl : d'.length = d.length
theorem oth_true {c : List Int} {may : List (List Int)} {rec : List Int → List Int → Int → Rs} {a x : Int} (a0 : 0 ≤ a) (a1 : a < may.length) (hx : x ∈ may.getD a.toNat []) (hf : ∀ d s y, (rec d s y).1 = false → (rec d s y).2.1 = d) (hs : ∀ d s y, ∀ v ∈ s, v ∈ (rec d s y).2.2)
    (hrec : ∀ (d s : List Int) (o : Int), d.length = may.length → NoOk c may d → 0 ≤ o → o < d.length → o ∉ s → (c.length : Int) ∉ may.getD o.toNat [] → (rec d s o).1 = true → Tr2 c may s o d (rec d s o).2.1) :
    ∀ (os d s : List Int), d.length = may.length → NoOk c may d → a ∈ s → (∀ o ∈ os, (0 ≤ o ∧ o < d.length ∧ (c.length : Int) ∉ may.getD o.toNat []) ∧ lat d o = x) → (othF rec a x os d s).1 = true → Tr2 c may s a d (othF rec a x os d s).2.1
  | [], d, s, _, _, _, _, h => by cases h
  | o :: os, d, s, dl, no, ha, hos, h => by
    rw [oth_cons] at h ⊢
    by_cases hso : s.contains o = true
    · rw [if_pos hso] at h ⊢
      exact oth_true a0 a1 hx hf hs hrec os d s dl no ha (fun o' h' => hos o' (.tail _ h')) h
    · rw [if_neg hso] at h ⊢
      have ons : o ∉ s := by simpa using hso
      have ho := hos o (.head _)
      unfold nx2 at h ⊢
      by_cases hr : (rec d s o).1 = true
      · rw [if_pos hr] at h ⊢
        have T := hrec d s o dl no ho.1.1 ho.1.2.1 ons ho.1.2.2 hr
        obtain ⟨z, z1, z2, z3, z4⟩ := T.z
        have ad : a < d.length := by rw [dl]; exact a1
        have ao : a ≠ o := fun e => ons (e ▸ ha)
        have ka := T.keep a a0 ad ha ao
        refine ⟨⟨z, z1, z2, z3, fun y => ?_⟩, fun b b0 b1 hb hn => ?_, fun b b0 b1 => ?_, ?_, by rw [List.length_set]; exact T.dl⟩
        · have g := lat_get (d := (rec d s o).2.1) a0 (by rw [T.dl]; exact ad)
          rw [ka] at g
          have c1 := count_setI (x := y) (v := x) g
          have c2 := z4 y
          rw [ho.2] at c2
          show (((rec d s o).2.1.set a.toNat x).count y : Int) + _ = _
          omega
        · rw [lat_set a0 b0 (by rw [T.dl]; exact b1), if_neg (fun e => hn e.symm)]
          exact T.keep b b0 b1 hb (fun e => ons (e ▸ hb))
        · rw [lat_set a0 b0 (by rw [T.dl]; exact b1)]
          by_cases e : a = b
          · rw [if_pos e]
            exact .inr (e ▸ hx)
          · rw [if_neg e]; exact T.may' b b0 b1
        · rw [lat_set a0 a0 (by rw [T.dl]; exact ad), if_pos rfl]
          exact hx
      · rw [if_neg hr] at h ⊢
        have e := hf d s o (by simpa using hr)
        rw [e] at h ⊢
        have T := oth_true a0 a1 hx hf hs hrec os d _ dl no (hs d s o a ha) (fun o' h' => hos o' (.tail _ h')) h
        exact ⟨T.z, fun b b0 b1 hb hn => T.keep b b0 b1 (hs d s o b hb) hn, T.may', T.self, T.dl⟩
theorem hold_all {c : List Int} {may : List (List Int)} {d : List Int} (dl : d.length = may.length) (no : NoOk c may d) {x : Int} (x1 : x < c.length) : ∀ o ∈ holdF d x, (0 ≤ o ∧ o < d.length ∧ (c.length : Int) ∉ may.getD o.toNat []) ∧ lat d o = x := fun o ho => by
  obtain ⟨⟨o0, o1⟩, e⟩ := mem_hold.mp ho
  exact ⟨⟨o0, o1, fun z => by have := no o o0 (by rw [← dl]; exact o1) z; omega⟩, e⟩
theorem thg_true {c : List Int} {may : List (List Int)} {rec : List Int → List Int → Int → Rs} {a : Int} (a0 : 0 ≤ a) (a1 : a < may.length) (hf : ∀ d s y, (rec d s y).1 = false → (rec d s y).2.1 = d) (hs : ∀ d s y, ∀ v ∈ s, v ∈ (rec d s y).2.2)
    (hrec : ∀ (d s : List Int) (o : Int), d.length = may.length → NoOk c may d → 0 ≤ o → o < d.length → o ∉ s → (c.length : Int) ∉ may.getD o.toNat [] → (rec d s o).1 = true → Tr2 c may s o d (rec d s o).2.1) :
    ∀ (xs d s : List Int), d.length = may.length → NoOk c may d → a ∈ s → (∀ x ∈ xs, (0 ≤ x ∧ x < c.length) ∧ x ∈ may.getD a.toNat []) → (thgF rec c a xs d s).1 = true → Tr2 c may s a d (thgF rec c a xs d s).2.1
  | [], d, s, _, _, _, _, h => by cases h
  | x :: xs, d, s, dl, no, ha, hxs, h => by
    have hx := hxs x (.head _)
    have ad : a < d.length := by rw [dl]; exact a1
    rw [thg_cons] at h ⊢
    by_cases hc : (d.count x : Int) < lat c x
    · rw [if_pos hc]
      refine ⟨⟨x, hc, hx.1.1, hx.1.2, fun y => count_setI (lat_get a0 ad)⟩, fun b b0 b1 _ hn => ?_, fun b b0 b1 => ?_, ?_, List.length_set⟩
      · rw [lat_set a0 b0 b1, if_neg (fun e => hn e.symm)]
      · rw [lat_set a0 b0 b1]
        by_cases e : a = b
        · rw [if_pos e]; exact .inr (e ▸ hx.2)
        · rw [if_neg e]; exact .inl rfl
      · rw [lat_set a0 a0 ad, if_pos rfl]; exact hx.2
    · rw [if_neg hc] at h ⊢
      unfold nx1 at h ⊢
      by_cases hr : (othF rec a x (holdF d x) d s).1 = true
      · rw [if_pos hr]
        exact oth_true a0 a1 hx.2 hf hs hrec _ d s dl no ha (hold_all dl no hx.1.2) hr
      · rw [if_neg hr] at h ⊢
        have e := oth_false hf _ d s (by simpa using hr)
        rw [e] at h ⊢
        have T := thg_true a0 a1 hf hs hrec xs d _ dl no (oth_sub hs _ d s a ha) (fun x' h' => hxs x' (.tail _ h')) h
        exact ⟨T.z, fun b b0 b1 hb hn => T.keep b b0 b1 (oth_sub hs _ d s b hb) hn, T.may', T.self, T.dl⟩
theorem giv_true {c : List Int} {may : List (List Int)} (io : InOk c may) : ∀ (f : Nat) (d s : List Int) (a : Int), d.length = may.length → NoOk c may d → 0 ≤ a → a < d.length → a ∉ s → (c.length : Int) ∉ may.getD a.toNat [] → (givF c may f d s a).1 = true → Tr2 c may s a d (givF c may f d s a).2.1
  | 0, _, _, _, _, _, _, _, _, _, h => by cases h
  | f + 1, d, s, a, dl, no, a0, a1, na, nn, h => by
    have a1' : a < may.length := by rw [← dl]; exact a1
    have T := thg_true a0 a1' (fun d s y => giv_false f d s y) (fun d s y => giv_sub f d s y) (fun d s o h1 h2 h3 h4 h5 h6 h7 => giv_true io f d s o h1 h2 h3 h4 h5 h6 h7) (may.getD a.toNat []) d (s ++ [a]) dl no (List.mem_append_right _ (.head _)) (fun x hx => ⟨(row_in io a0 a1' nn).2 x hx, hx⟩) h
    exact ⟨T.z, fun b b0 b1 hb hn => T.keep b b0 b1 (List.mem_append_left _ hb) hn, T.may', T.self, T.dl⟩
def Dn (c : List Int) (may : List (List Int)) (d s : List Int) (b : Int) : Prop := (c.length : Int) ∉ may.getD b.toNat [] ∧ ∀ x ∈ may.getD b.toNat [], ¬ (d.count x : Int) < lat c x ∧ ∀ o : Int, 0 ≤ o → o < d.length → lat d o = x → o ∈ s
structure Fl (c : List Int) (may : List (List Int)) (d s s' : List Int) : Prop where
  ok : GvOk c may d s'
  sub : ∀ v ∈ s, v ∈ s'
  len : s.length ≤ s'.length
  new : ∀ b ∈ s', b ∈ s ∨ Dn c may d s' b
theorem Dn.mono {c : List Int} {may : List (List Int)} {d s s' : List Int} {b : Int} (h : Dn c may d s b) (e : ∀ v ∈ s, v ∈ s') : Dn c may d s' b := ⟨h.1, fun x hx => ⟨(h.2 x hx).1, fun o o0 o1 ho => e o ((h.2 x hx).2 o o0 o1 ho)⟩⟩
theorem Fl.trans {c : List Int} {may : List (List Int)} {d s s1 s2 : List Int} (h1 : Fl c may d s s1) (h2 : Fl c may d s1 s2) : Fl c may d s s2 :=
  ⟨h2.ok, fun v hv => h2.sub v (h1.sub v hv), Nat.le_trans h1.len h2.len, fun b hb => (h2.new b hb).elim (fun z => (h1.new b z).elim .inl fun y => .inr (y.mono h2.sub)) .inr⟩
theorem oth_fail {c : List Int} {may : List (List Int)} {rec : List Int → List Int → Int → Rs} {a x : Int} {f : Nat} {d : List Int} (hf : ∀ d s y, (rec d s y).1 = false → (rec d s y).2.1 = d)
    (hrec : ∀ (s : List Int) (o : Int), GvOk c may d s → 0 ≤ o → o < d.length → o ∉ s → (c.length : Int) ∉ may.getD o.toNat [] → may.length ≤ f + s.length → (rec d s o).1 = false → Fl c may d s (rec d s o).2.2 ∧ o ∈ (rec d s o).2.2) :
    ∀ (os s : List Int), GvOk c may d s → may.length ≤ f + s.length → (∀ o ∈ os, (0 ≤ o ∧ o < d.length ∧ (c.length : Int) ∉ may.getD o.toNat []) ∧ lat d o = x) → (othF rec a x os d s).1 = false → Fl c may d s (othF rec a x os d s).2.2 ∧ ∀ o ∈ os, o ∈ (othF rec a x os d s).2.2
  | [], s, ok, _, _, _ => ⟨⟨ok, fun _ z => z, Nat.le_refl _, fun b z => .inl z⟩, fun _ z => nomatch z⟩
  | o :: os, s, ok, fu, hos, h => by
    have ho := hos o (.head _)
    rw [oth_cons] at h ⊢
    by_cases hso : s.contains o = true
    · rw [if_pos hso] at h ⊢
      have ih := oth_fail hf hrec os s ok fu (fun o' h' => hos o' (.tail _ h')) h
      refine ⟨ih.1, fun o' h' => ?_⟩
      rcases List.mem_cons.mp h' with rfl | z
      · exact ih.1.sub _ (by simpa using hso)
      · exact ih.2 o' z
    · rw [if_neg hso] at h ⊢
      have ons : o ∉ s := by simpa using hso
      unfold nx2 at h ⊢
      by_cases hr : (rec d s o).1 = true
      · rw [if_pos hr] at h; cases h
      · rw [if_neg hr] at h ⊢
        have hr' : (rec d s o).1 = false := by simpa using hr
        have e := hf d s o hr'
        have q := hrec s o ok ho.1.1 ho.1.2.1 ons ho.1.2.2 fu hr'
        rw [e] at h ⊢
        have ih := oth_fail hf hrec os _ q.1.ok (Nat.le_trans fu (Nat.add_le_add_left q.1.len _)) (fun o' h' => hos o' (.tail _ h')) h
        refine ⟨q.1.trans ih.1, fun o' h' => ?_⟩
        rcases List.mem_cons.mp h' with rfl | z
        · exact ih.1.sub _ q.2
        · exact ih.2 o' z
theorem thg_fail {c : List Int} {may : List (List Int)} {rec : List Int → List Int → Int → Rs} {a : Int} {f : Nat} {d : List Int} (hf : ∀ d s y, (rec d s y).1 = false → (rec d s y).2.1 = d) (no : NoOk c may d)
    (hrec : ∀ (s : List Int) (o : Int), GvOk c may d s → 0 ≤ o → o < d.length → o ∉ s → (c.length : Int) ∉ may.getD o.toNat [] → may.length ≤ f + s.length → (rec d s o).1 = false → Fl c may d s (rec d s o).2.2 ∧ o ∈ (rec d s o).2.2) :
    ∀ (xs s : List Int), GvOk c may d s → may.length ≤ f + s.length → (∀ x ∈ xs, x < c.length) → (thgF rec c a xs d s).1 = false → Fl c may d s (thgF rec c a xs d s).2.2 ∧ ∀ x ∈ xs, ¬ (d.count x : Int) < lat c x ∧ ∀ o : Int, 0 ≤ o → o < d.length → lat d o = x → o ∈ (thgF rec c a xs d s).2.2
  | [], s, ok, _, _, _ => ⟨⟨ok, fun _ z => z, Nat.le_refl _, fun b z => .inl z⟩, fun _ z => nomatch z⟩
  | x :: xs, s, ok, fu, hxs, h => by
    rw [thg_cons] at h ⊢
    by_cases hc : (d.count x : Int) < lat c x
    · rw [if_pos hc] at h; cases h
    · rw [if_neg hc] at h ⊢
      unfold nx1 at h ⊢
      by_cases hr : (othF rec a x (holdF d x) d s).1 = true
      · rw [if_pos hr, hr] at h; cases h
      · rw [if_neg hr] at h ⊢
        have hr' : (othF rec a x (holdF d x) d s).1 = false := by simpa using hr
        have e := oth_false hf _ d s hr'
        have q := oth_fail hf hrec (holdF d x) s ok fu (hold_all ok.dl no (hxs x (.head _))) hr'
        rw [e] at h ⊢
        have ih := thg_fail hf no hrec xs _ q.1.ok (Nat.le_trans fu (Nat.add_le_add_left q.1.len _)) (fun o' h' => hxs o' (.tail _ h')) h
        refine ⟨q.1.trans ih.1, fun y hy => ?_⟩
        rcases List.mem_cons.mp hy with rfl | z
        · exact ⟨hc, fun o o0 o1 ho => ih.1.sub _ (q.2 o (mem_hold.mpr ⟨⟨o0, o1⟩, ho⟩))⟩
        · exact ih.2 y z
theorem giv_fail {c : List Int} {may : List (List Int)} (io : InOk c may) {d : List Int} : ∀ (f : Nat) (s : List Int) (a : Int), GvOk c may d s → 0 ≤ a → a < d.length → a ∉ s → (c.length : Int) ∉ may.getD a.toNat [] → may.length ≤ f + s.length → (givF c may f d s a).1 = false → Fl c may d s (givF c may f d s a).2.2 ∧ a ∈ (givF c may f d s a).2.2
  | 0, s, a, ok, a0, a1, na, nn, fu, h => by
    have a1' : a < may.length := by rw [← ok.dl]; exact a1
    have := seen_le (ok.see a0 a1' na).sr (ok.see a0 a1' na).sn
    rw [List.length_append, List.length_singleton] at this
    omega
  | f + 1, s, a, ok, a0, a1, na, nn, fu, h => by
    have a1' : a < may.length := by rw [← ok.dl]; exact a1
    have q := thg_fail (a := a) (fun d s y => giv_false f d s y) ok.no (fun s o h1 h2 h3 h4 h5 h6 h7 => giv_fail io f s o h1 h2 h3 h4 h5 h6 h7) (may.getD a.toNat []) (s ++ [a]) (ok.see a0 a1' na) (by rw [List.length_append, List.length_singleton]; omega) (fun x hx => ((row_in io a0 a1' nn).2 x hx).2) h
    refine ⟨⟨q.1.ok, fun v hv => q.1.sub v (List.mem_append_left _ hv), Nat.le_trans (by rw [List.length_append]; omega) q.1.len, fun b hb => ?_⟩, q.1.sub a (List.mem_append_right _ (.head _))⟩
    rcases q.1.new b hb with z | z
    · rcases List.mem_append.mp z with z | z
      · exact .inl z
      · rw [List.mem_singleton.mp z]
        exact .inr ⟨nn, q.2⟩
    · exact .inr z
structure Fo (n : Nat) (may : List (List Int)) (must d s s' : List Int) : Prop where
  ok : OtOk n may.length d s'
  sub : ∀ v ∈ s, v ∈ s'
  len : s.length ≤ s'.length
  new : ∀ y ∈ s', y ∈ s ∨ (y ∈ must ∧ ∀ a : Int, 0 ≤ a → a < may.length → y ∈ may.getD a.toNat [] → lat d a ∈ s')
theorem Fo.trans {n : Nat} {may : List (List Int)} {must d s s1 s2 : List Int} (h1 : Fo n may must d s s1) (h2 : Fo n may must d s1 s2) : Fo n may must d s s2 :=
  ⟨h2.ok, fun v hv => h2.sub v (h1.sub v hv), Nat.le_trans h1.len h2.len, fun b hb => (h2.new b hb).elim (fun z => (h1.new b z).elim .inl fun y => .inr ⟨y.1, fun a a0 a1 ha => h2.sub _ (y.2 a a0 a1 ha)⟩) .inr⟩
theorem outL_fail {n : Nat} {may : List (List Int)} {must : List Int} {rec : List Int → List Int → Int → Rs} {x : Int} {f : Nat} {d : List Int} (hmu : ∀ y ∈ must, 0 ≤ y ∧ y < (n : Int)) (hf : ∀ d s y, (rec d s y).1 = false → (rec d s y).2.1 = d)
    (hrec : ∀ (s : List Int) (y : Int), OtOk n may.length d s → 0 ≤ y → y < n → y ∉ s → y ∈ must → n ≤ f + s.length → (rec d s y).1 = false → Fo n may must d s (rec d s y).2.2 ∧ y ∈ (rec d s y).2.2) :
    ∀ (rs : List (List Int)) (a : Nat) (s : List Int), may.drop a = rs → OtOk n may.length d s → n ≤ f + s.length → (outL rec must x rs a d s).1 = false → Fo n may must d s (outL rec must x rs a d s).2.2 ∧ ∀ b : Nat, a ≤ b → b < may.length → x ∈ may.getD b [] → lat d b ∈ (outL rec must x rs a d s).2.2
  | [], a, s, hm, ok, fu, h => by
    refine ⟨⟨ok, fun _ z => z, Nat.le_refl _, fun b z => .inl z⟩, fun b h1 h2 _ => ?_⟩
    have : (may.drop a).length = 0 := by rw [hm]; rfl
    rw [List.length_drop] at this
    omega
  | r :: rs, a, s, hm, ok, fu, h => by
    have ha : a < may.length := by
      rcases Nat.lt_or_ge a may.length with z | z
      · exact z
      · rw [List.drop_of_length_le z] at hm; cases hm
    have hm2 : may[a] = r ∧ may.drop (a + 1) = rs := by
      rw [List.drop_eq_getElem_cons ha] at hm
      injection hm with e1 e2
      exact ⟨e1, e2⟩
    have hrow : may.getD a [] = r := by rw [List.getD_eq_getElem?_getD, List.getElem?_eq_getElem ha, hm2.1]; rfl
    have ea : (a : Int) + 1 = ((a + 1 : Nat) : Int) := by omega
    unfold outL at h ⊢
    by_cases h1 : (r.contains x && !s.contains (lat d a)) = true
    · rw [if_pos h1] at h ⊢
      rw [Bool.and_eq_true] at h1
      have hns : lat d a ∉ s := by simpa using h1.2
      by_cases h2 : must.contains (lat d a) = true
      · rw [if_pos h2] at h ⊢
        have h2' : lat d a ∈ must := by simpa using h2
        by_cases h3 : (rec d s (lat d a)).1 = true
        · rw [if_pos h3] at h; cases h
        · rw [if_neg h3] at h ⊢
          have h3' : (rec d s (lat d a)).1 = false := by simpa using h3
          have e := hf d s _ h3'
          have q := hrec s _ ok (hmu _ h2').1 (hmu _ h2').2 hns h2' fu h3'
          rw [e, ea] at h ⊢
          have ih := outL_fail hmu hf hrec rs (a + 1) _ hm2.2 q.1.ok (Nat.le_trans fu (Nat.add_le_add_left q.1.len _)) h
          refine ⟨q.1.trans ih.1, fun b b0 b1 hb => ?_⟩
          by_cases eb : a = b
          · rw [← eb]; exact ih.1.sub _ q.2
          · exact ih.2 b (by omega) b1 hb
      · rw [if_neg h2] at h; cases h
    · rw [if_neg h1] at h ⊢
      rw [ea] at h ⊢
      have ih := outL_fail hmu hf hrec rs (a + 1) s hm2.2 ok fu h
      refine ⟨ih.1, fun b b0 b1 hb => ?_⟩
      by_cases eb : a = b
      · subst eb
        rw [hrow] at hb
        refine ih.1.sub _ (Classical.byContradiction fun z => h1 ?_)
        rw [Bool.and_eq_true]
        exact ⟨by simpa using hb, by simpa using z⟩
      · exact ih.2 b (by omega) b1 hb
theorem outF_fail {n : Nat} {may : List (List Int)} {must : List Int} {d : List Int} (hmu : ∀ y ∈ must, 0 ≤ y ∧ y < (n : Int)) : ∀ (f : Nat) (s : List Int) (x : Int), OtOk n may.length d s → 0 ≤ x → x < n → x ∉ s → x ∈ must → n ≤ f + s.length → (outF may must f d s x).1 = false → Fo n may must d s (outF may must f d s x).2.2 ∧ x ∈ (outF may must f d s x).2.2
  | 0, s, x, ok, x0, x1, nx, hx, fu, h => by
    have := seen_le (ok.see x0 x1 nx).sr (ok.see x0 x1 nx).sn
    rw [List.length_append, List.length_singleton] at this
    omega
  | f + 1, s, x, ok, x0, x1, nx, hx, fu, h => by
    have q := outL_fail (x := x) hmu (fun d s y => outF_false f d s y) (fun s y h1 h2 h3 h4 h5 h6 h7 => outF_fail hmu f s y h1 h2 h3 h4 h5 h6 h7) may 0 (s ++ [x]) rfl (ok.see x0 x1 nx) (by rw [List.length_append, List.length_singleton]; omega) h
    refine ⟨⟨q.1.ok, fun v hv => q.1.sub v (List.mem_append_left _ hv), Nat.le_trans (by rw [List.length_append]; omega) q.1.len, fun b hb => ?_⟩, q.1.sub x (List.mem_append_right _ (.head _))⟩
    rcases q.1.new b hb with z | z
    · rcases List.mem_append.mp z with z | z
      · exact .inl z
      · rw [List.mem_singleton.mp z]
        exact .inr ⟨hx, fun a a0 a1 ha => by
          have := q.2 a.toNat (Nat.zero_le _) (by omega) ha
          rw [show ((a.toNat : Nat) : Int) = a by omega] at this
          exact this⟩
    · exact .inr z
theorem nodup_len : ∀ {L S : List Int}, L.Nodup → (∀ x ∈ L, x ∈ S) → L.length ≤ S.length
  | [], _, _, _ => Nat.zero_le _
  | x :: L, S, nd, h => by
    have n2 := List.nodup_cons.mp nd
    have hx := h x (.head _)
    have ih := nodup_len (L := L) (S := S.erase x) n2.2 fun y hy => (List.mem_erase_of_ne (show y ≠ x from fun e => n2.1 (e ▸ hy))).mpr (h y (.tail _ hy))
    rw [List.length_erase_of_mem hx] at ih
    have := List.length_pos_of_mem hx
    rw [List.length_cons]
    omega
theorem filt_cons {k : Int} {N : List Int} (h : k ∉ N) : ∀ d : List Int, (d.filter fun y => (k :: N).contains y).length = d.count k + (d.filter fun y => N.contains y).length
  | [] => rfl
  | y :: d => by
    have ih := filt_cons h d
    rw [List.filter_cons, List.filter_cons, List.count_cons, List.contains_cons]
    by_cases e : y = k
    · subst e
      rw [show N.contains y = false by simpa using h, show (y == y) = true by simp, Bool.true_or, if_pos rfl, if_neg (c := (false = true)) (by simp), if_pos rfl, List.length_cons, ih]
      omega
    · rw [show (y == k) = false by simpa using e, Bool.false_or, if_neg (c := (false = true)) (by simp)]
      by_cases hn : N.contains y = true
      · rw [hn, if_pos rfl, if_pos rfl, List.length_cons, List.length_cons, ih]; omega
      · rw [if_neg hn, if_neg hn, ih]; omega
theorem sum_count (d : List Int) : ∀ {N : List Int}, N.Nodup → (N.map fun k => (d.count k : Int)).sum = ((d.filter fun y => N.contains y).length : Nat)
  | [], _ => by
    rw [List.filter_eq_nil_iff.mpr (fun y _ => by simp)]; rfl
  | k :: N, nd => by
    have n2 := List.nodup_cons.mp nd
    rw [List.map_cons, List.sum_cons, sum_count d n2.2, filt_cons n2.1]
    omega
theorem sum_le {f g : Int → Int} : ∀ {N : List Int}, (∀ k ∈ N, f k ≤ g k) → (N.map f).sum ≤ (N.map g).sum
  | [], _ => Int.le_refl _
  | k :: N, h => by
    have := sum_le (f := f) (g := g) (N := N) fun y hy => h y (.tail _ hy)
    have := h k (.head _)
    rw [List.map_cons, List.map_cons, List.sum_cons, List.sum_cons]; omega
theorem sum_lt {f g : Int → Int} {x : Int} : ∀ {N : List Int}, (∀ k ∈ N, f k ≤ g k) → x ∈ N → f x < g x → (N.map f).sum < (N.map g).sum
  | k :: N, h, hx, lt => by
    have h1 := sum_le (f := f) (g := g) (N := N) fun y hy => h y (.tail _ hy)
    have h2 := h k (.head _)
    rw [List.map_cons, List.map_cons, List.sum_cons, List.sum_cons]
    rcases List.mem_cons.mp hx with rfl | z
    · omega
    · have := sum_lt (f := f) (g := g) (N := N) (fun y hy => h y (.tail _ hy)) z lt
      omega
theorem sum_perm {f : Int → Int} {a b : List Int} (p : a.Perm b) : (a.map f).sum = (b.map f).sum := by
  induction p with
  | nil => rfl
  | cons x _ ih => rw [List.map_cons, List.map_cons, List.sum_cons, List.sum_cons, ih]
  | swap x y l => rw [List.map_cons, List.map_cons, List.map_cons, List.map_cons, List.sum_cons, List.sum_cons, List.sum_cons, List.sum_cons]; omega
  | trans _ _ h1 h2 => exact h1.trans h2
theorem map_nums {α : Type} (l : List α) (e : α) : l = (numsF l.length).map fun a => l.getD a.toNat e := by
  refine List.ext_getElem? fun n => ?_
  unfold numsF
  rw [List.map_map, List.getElem?_map]
  by_cases hn : n < l.length
  · rw [List.getElem?_range hn, List.getElem?_eq_getElem hn]
    show some l[n] = some (l.getD (0 + ((n : Nat) : Int)).toNat e)
    rw [Int.zero_add, Int.toNat_natCast, List.getD_eq_getElem?_getD, List.getElem?_eq_getElem hn]; rfl
  · rw [List.getElem?_eq_none (l := l) (by omega), List.getElem?_eq_none (l := List.range l.length) (by rw [List.length_range]; omega)]; rfl
theorem filt_nums {α : Type} (l : List α) (e : α) (p : α → Bool) : (l.filter p).length = ((numsF l.length).filter fun a => p (l.getD a.toNat e)).length := by
  have h := map_nums l e
  have : l.filter p = ((numsF l.length).map fun a => l.getD a.toNat e).filter p := by rw [← h]
  rw [this, List.filter_map, List.length_map]; rfl
structure AskU (c : List Int) (may : List (List Int)) (S : List Int) : Prop where
  ne : S ≠ []
  nd : S.Nodup
  rg : ∀ b ∈ S, (0 ≤ b ∧ b < may.length) ∧ (c.length : Int) ∉ may.getD b.toNat []
  sum : (((numsF c.length).filter fun k => S.any fun b => (may.getD b.toNat []).contains k).map (lat c)).sum < S.length
structure ThgU (c : List Int) (may : List (List Int)) (must S : List Int) : Prop where
  ne : S ≠ []
  nd : S.Nodup
  sub : ∀ y ∈ S, y ∈ must
  sum : ((may.filter fun r => r.any fun y => S.contains y).length : Int) < (S.map (lat c)).sum
theorem AskU.of {c : List Int} {may : List (List Int)} {d S : List Int} {a : Int} (dl : d.length = may.length) (nd : S.Nodup) (ha : a ∈ S) (hd : lat d a = -1) (rg : ∀ b ∈ S, 0 ≤ b ∧ b < may.length) (dn : ∀ b ∈ S, Dn c may d S b) : AskU c may S := by
  refine ⟨fun e => (by rw [e] at ha; cases ha), nd, fun b hb => ⟨rg b hb, (dn b hb).1⟩, ?_⟩
  have hN : ∀ k ∈ (numsF c.length).filter (fun k => S.any fun b => (may.getD b.toNat []).contains k), 0 ≤ k ∧ ∃ b ∈ S, k ∈ may.getD b.toNat [] := fun k hk => by
    obtain ⟨h1, h2⟩ := List.mem_filter.mp hk
    obtain ⟨b, hb, h3⟩ := List.any_eq_true.mp h2
    exact ⟨(mem_nums.mp h1).1, b, hb, by simpa using h3⟩
  have nN : ((numsF c.length).filter fun k => S.any fun b => (may.getD b.toNat []).contains k).Nodup := (nums_nodup _).filter _
  generalize (numsF c.length).filter (fun k => S.any fun b => (may.getD b.toNat []).contains k) = N at hN nN
  have h1 := sum_le (f := lat c) (g := fun k => (d.count k : Int)) (N := N) fun k hk => by
    obtain ⟨_, b, hb, h⟩ := hN k hk
    have := ((dn b hb).2 k h).1
    omega
  rw [sum_count d nN, filt_nums d 0] at h1
  have h2 : ((numsF d.length).filter fun o => N.contains (d.getD o.toNat 0)).length ≤ (S.erase a).length := nodup_len ((nums_nodup _).filter _) fun o ho => by
    obtain ⟨h3, h4⟩ := List.mem_filter.mp ho
    have h3' := mem_nums.mp h3
    have h4' : lat d o ∈ N := by
      unfold lat
      simpa using h4
    obtain ⟨h5, b, hb, h6⟩ := hN _ h4'
    have : o ≠ a := fun e => by rw [e, hd] at h5; omega
    exact (List.mem_erase_of_ne this).mpr (((dn b hb).2 _ h6).2 o h3'.1 h3'.2 rfl)
  rw [List.length_erase_of_mem ha] at h2
  have := List.length_pos_of_mem ha
  omega
theorem ThgU.of {c : List Int} {may : List (List Int)} {must d S : List Int} {x : Int} (dl : d.length = may.length) (nd : S.Nodup) (hx : x ∈ S) (lt : (d.count x : Int) < lat c x) (le : ∀ k ∈ S, (d.count k : Int) ≤ lat c k) (sub : ∀ y ∈ S, y ∈ must) (cl : ∀ y ∈ S, ∀ a : Int, 0 ≤ a → a < may.length → y ∈ may.getD a.toNat [] → lat d a ∈ S) : ThgU c may must S := by
  refine ⟨fun e => (by rw [e] at hx; cases hx), nd, sub, ?_⟩
  have h1 := sum_lt (f := fun k => (d.count k : Int)) (g := lat c) le hx lt
  rw [sum_count d nd, filt_nums d 0] at h1
  rw [filt_nums may []]
  refine Int.lt_of_le_of_lt (Int.ofNat_le.mpr ?_) h1
  rw [← dl, ← List.countP_eq_length_filter, ← List.countP_eq_length_filter]
  refine List.countP_mono_left fun a ha h => ?_
  have ha' := mem_nums.mp ha
  obtain ⟨y, hy, hy2⟩ := List.any_eq_true.mp h
  have := cl y (by simpa using hy2) a ha'.1 (by rw [← dl]; exact ha'.2) hy
  unfold lat at this
  simpa using this
def startF (n : Nat) (may : List (List Int)) : List Int := may.map fun r => if r.contains (n : Int) then (n : Int) else -1
def givL (c : List Int) (may : List (List Int)) : List Int → List Int → Rs
  | [], d => (true, d, [])
  | a :: as, d => if lat d a < 0 then (if (givF c may 7 d [] a).1 = true then givL c may as (givF c may 7 d [] a).2.1 else givF c may 7 d [] a) else givL c may as d
def outW (c : List Int) (may : List (List Int)) (must : List Int) (x : Int) : Nat → List Int → Rs
  | 0, d => (true, d, [])
  | m + 1, d => if (outF may must 7 d [] x).1 = true then outW c may must x m (outF may must 7 d [] x).2.1 else outF may must 7 d [] x
def outM (c : List Int) (may : List (List Int)) (must : List Int) : List Int → List Int → Rs
  | [], d => (true, d, [])
  | x :: xs, d => if (outW c may must x (lat c x - d.count x).toNat d).1 = true then outM c may must xs (outW c may must x (lat c x - d.count x).toNat d).2.1 else outW c may must x (lat c x - d.count x).toNat d
structure DOk (c : List Int) (may : List (List Int)) (d : List Int) : Prop where
  g : GvOk c may d []
  mem : ∀ a : Int, 0 ≤ a → a < may.length → lat d a = -1 ∨ lat d a ∈ may.getD a.toNat []
  cnt : ∀ k : Int, 0 ≤ k → k < c.length → (d.count k : Int) ≤ lat c k
theorem GvOk.fresh {c : List Int} {may : List (List Int)} {d s : List Int} (h : GvOk c may d s) : GvOk c may d [] := ⟨h.dl, h.dr, fun _ z => (nomatch z), .nil, h.no⟩
theorem row_mem {may : List (List Int)} {a : Int} (a0 : 0 ≤ a) (a1 : a < may.length) : may.getD a.toNat [] ∈ may := by
  rw [List.getD_eq_getElem?_getD, List.getElem?_eq_getElem (show a.toNat < may.length by omega)]
  exact List.getElem_mem _
theorem DOk.nn {c : List Int} {may : List (List Int)} {d : List Int} (h : DOk c may d) {a : Int} (a0 : 0 ≤ a) (a1 : a < may.length) (hd : lat d a < 0) : (c.length : Int) ∉ may.getD a.toNat [] := fun z => by
  have := h.g.no a a0 a1 z
  omega
theorem DOk.neg {c : List Int} {may : List (List Int)} (io : InOk c may) {d : List Int} (h : DOk c may d) {a : Int} (a0 : 0 ≤ a) (a1 : a < may.length) (hd : lat d a < 0) : lat d a = -1 := by
  rcases h.mem a a0 a1 with z | z
  · exact z
  · have := (io.row _ (row_mem a0 a1)).2 _ z
    omega
theorem DOk.give {c : List Int} {may : List (List Int)} (io : InOk c may) {d : List Int} (h : DOk c may d) {a : Int} (a0 : 0 ≤ a) (a1 : a < may.length) (hd : lat d a < 0) (ht : (givF c may 7 d [] a).1 = true) : DOk c may (givF c may 7 d [] a).2.1 ∧ (0 ≤ lat (givF c may 7 d [] a).2.1 a) ∧ ∀ b : Int, 0 ≤ b → b < may.length → 0 ≤ lat d b → 0 ≤ lat (givF c may 7 d [] a).2.1 b := by
  have nn := h.nn a0 a1 hd
  have hd' := h.neg io a0 a1 hd
  have kp := giv_ok io 7 d [] a h.g a0 a1 (fun z => nomatch z) nn
  have T := giv_true io 7 d [] a h.g.dl h.g.no a0 (by rw [h.g.dl]; exact a1) (fun z => nomatch z) nn ht
  have kf : GvOk c may (givF c may 7 d [] a).2.1 [] := kp.ok.fresh
  generalize (givF c may 7 d [] a).2.1 = d' at kf T
  have ge : ∀ b : Int, 0 ≤ b → b < may.length → ∀ x, x ∈ may.getD b.toNat [] → 0 ≤ x := fun b b0 b1 x hx => ((io.row _ (row_mem b0 b1)).2 x hx).1
  refine ⟨⟨kf, fun b b0 b1 => ?_, fun k k0 k1 => ?_⟩, ge a a0 a1 _ T.self, fun b b0 b1 hb => ?_⟩
  · rcases T.may' b b0 (by rw [h.g.dl]; exact b1) with z | z
    · rw [z]; exact h.mem b b0 b1
    · exact .inr z
  · obtain ⟨z, z1, z2, z3, z4⟩ := T.z
    have h1 := z4 k
    have h2 := h.cnt k k0 k1
    rw [if_neg (show ¬ lat d a = k by omega)] at h1
    by_cases e : z = k
    · rw [if_pos e] at h1
      rw [e] at z1
      omega
    · rw [if_neg e] at h1; omega
  · rcases T.may' b b0 (by rw [h.g.dl]; exact b1) with z | z
    · rw [z]; exact hb
    · exact ge b b0 b1 _ z
theorem DOk.short {c : List Int} {may : List (List Int)} (io : InOk c may) {d : List Int} (h : DOk c may d) {a : Int} (a0 : 0 ≤ a) (a1 : a < may.length) (hd : lat d a < 0) (ht : (givF c may 7 d [] a).1 = false) : AskU c may (givF c may 7 d [] a).2.2 := by
  have A6 := io.A6
  have nn := h.nn a0 a1 hd
  have q := giv_fail io 7 [] a h.g a0 (by rw [h.g.dl]; exact a1) (fun z => nomatch z) nn (by rw [List.length_nil]; omega) ht
  exact AskU.of h.g.dl q.1.ok.sn q.2 (h.neg io a0 a1 hd) q.1.ok.sr fun b hb => (q.1.new b hb).elim (fun z => nomatch z) id
theorem givL_ok {c : List Int} {may : List (List Int)} (io : InOk c may) : ∀ (as d : List Int), DOk c may d → (∀ a ∈ as, 0 ≤ a ∧ a < may.length) → ((givL c may as d).1 = true → DOk c may (givL c may as d).2.1 ∧ (∀ a ∈ as, 0 ≤ lat (givL c may as d).2.1 a) ∧ ∀ b : Int, 0 ≤ b → b < may.length → 0 ≤ lat d b → 0 ≤ lat (givL c may as d).2.1 b) ∧ ((givL c may as d).1 = false → AskU c may (givL c may as d).2.2)
  | [], d, h, _ => ⟨fun _ => ⟨h, fun _ z => (nomatch z), fun _ _ _ z => z⟩, fun z => by cases z⟩
  | a :: as, d, h, has => by
    have ha := has a (.head _)
    have hs : ∀ b ∈ as, 0 ≤ b ∧ b < may.length := fun b hb => has b (.tail _ hb)
    unfold givL
    by_cases hd : lat d a < 0
    · rw [if_pos hd]
      by_cases ht : (givF c may 7 d [] a).1 = true
      · rw [if_pos ht]
        have g := h.give io ha.1 ha.2 hd ht
        have ih := givL_ok io as _ g.1 hs
        refine ⟨fun z => ?_, ih.2⟩
        have q := ih.1 z
        refine ⟨q.1, fun b hb => ?_, fun b b0 b1 hb => q.2.2 b b0 b1 (g.2.2 b b0 b1 hb)⟩
        rcases List.mem_cons.mp hb with rfl | y
        · exact q.2.2 _ ha.1 ha.2 g.2.1
        · exact q.2.1 b y
      · rw [if_neg ht]
        exact ⟨fun z => absurd z ht, fun z => h.short io ha.1 ha.2 hd z⟩
    · rw [if_neg hd]
      have ih := givL_ok io as d h hs
      refine ⟨fun z => ?_, ih.2⟩
      have q := ih.1 z
      refine ⟨q.1, fun b hb => ?_, q.2.2⟩
      rcases List.mem_cons.mp hb with rfl | y
      · exact q.2.2 _ ha.1 ha.2 (by omega)
      · exact q.2.1 b y
theorem start_lat {n : Nat} {may : List (List Int)} {a : Int} (a0 : 0 ≤ a) (a1 : a < may.length) : lat (startF n may) a = if (may.getD a.toNat []).contains (n : Int) then (n : Int) else -1 := by
  unfold lat startF
  rw [List.getD_eq_getElem?_getD, List.getElem?_map, List.getD_eq_getElem?_getD, List.getElem?_eq_getElem (show a.toNat < may.length by omega)]; rfl
theorem start_ok {c : List Int} {may : List (List Int)} (io : InOk c may) (c0 : ∀ x ∈ c, 0 ≤ x) : DOk c may (startF c.length may) := by
  have hv : ∀ y ∈ startF c.length may, y = c.length ∨ y = -1 := fun y hy => by
    obtain ⟨r, hr, rfl⟩ := List.mem_map.mp hy
    split
    · exact .inl rfl
    · exact .inr rfl
  refine ⟨⟨List.length_map _, fun y hy => ?_, fun _ z => (nomatch z), .nil, fun a a0 a1 ha => ?_⟩, fun a a0 a1 => ?_, fun k k0 k1 => ?_⟩
  · rcases hv y hy with z | z <;> omega
  · rw [start_lat a0 a1, if_pos (by simpa using ha)]
  · rw [start_lat a0 a1]
    by_cases z : (may.getD a.toNat []).contains (c.length : Int) = true
    · rw [if_pos z]; exact .inr (by simpa using z)
    · rw [if_neg z]; exact .inl rfl
  · have : (startF c.length may).count k = 0 := List.count_eq_zero.mpr fun z => by
      rcases hv k z with y | y <;> omega
    rw [this]
    exact c0 _ (lat_mem k0 k1)
structure EOk (c : List Int) (may : List (List Int)) (d : List Int) : Prop where
  dl : d.length = may.length
  mem : ∀ a : Int, 0 ≤ a → a < may.length → lat d a ∈ may.getD a.toNat []
  cnt : ∀ k : Int, 0 ≤ k → k < c.length → (d.count k : Int) ≤ lat c k
theorem EOk.ot {c : List Int} {may : List (List Int)} (io : InOk c may) {d : List Int} (h : EOk c may d) : OtOk c.length may.length d [] := by
  refine ⟨h.dl, fun y hy => ?_, fun _ z => (nomatch z), .nil⟩
  obtain ⟨n, hn, e⟩ := List.getElem_of_mem hy
  have := h.mem n (by omega) (by rw [← h.dl]; omega)
  have hl : lat d (n : Nat) = y := by
    unfold lat
    rw [Int.toNat_natCast, List.getD_eq_getElem?_getD, List.getElem?_eq_getElem hn, e]; rfl
  rw [hl] at this
  have := (io.row _ (row_mem (a := n) (by omega) (by rw [← h.dl]; omega))).2 y this
  omega
theorem EOk.out {c : List Int} {may : List (List Int)} (io : InOk c may) {must d : List Int} (h : EOk c may d) (hmu : ∀ y ∈ must, 0 ≤ y ∧ y < (c.length : Int)) {x : Int} (hx : x ∈ must) (lt : (d.count x : Int) < lat c x) (ht : (outF may must 7 d [] x).1 = true) : EOk c may (outF may must 7 d [] x).2.1 ∧ ((outF may must 7 d [] x).2.1.count x : Int) = d.count x + 1 ∧ ∀ y ∈ must, (d.count y : Int) ≤ (outF may must 7 d [] x).2.1.count y := by
  have T := outF_true 7 d [] x h.dl ht
  generalize (outF may must 7 d [] x).2.1 = d' at T
  obtain ⟨z, z1, z2⟩ := T.z
  refine ⟨⟨T.dl.trans h.dl, fun a a0 a1 => ?_, fun k k0 k1 => ?_⟩, ?_, fun y hy => ?_⟩
  · rcases T.may' a a0 (by rw [h.dl]; exact a1) with y | y
    · rw [y]; exact h.mem a a0 a1
    · exact y
  · have h1 := z2 k
    have h2 := h.cnt k k0 k1
    by_cases e : x = k
    · subst e
      rw [if_pos rfl] at h1
      by_cases e2 : z = x
      · rw [if_pos e2] at h1; omega
      · rw [if_neg e2] at h1; omega
    · rw [if_neg e] at h1
      by_cases e2 : z = k
      · rw [if_pos e2] at h1; omega
      · rw [if_neg e2] at h1; omega
  · have h1 := z2 x
    rw [if_pos rfl, if_neg (show ¬ z = x from fun e => z1 (e ▸ hx))] at h1
    omega
  · have h1 := z2 y
    rw [if_neg (show ¬ z = y from fun e => z1 (e ▸ hy))] at h1
    by_cases e : x = y
    · rw [if_pos e] at h1; omega
    · rw [if_neg e] at h1; omega
theorem EOk.many {c : List Int} {may : List (List Int)} (io : InOk c may) {must d : List Int} (h : EOk c may d) (hmu : ∀ y ∈ must, 0 ≤ y ∧ y < (c.length : Int)) {x : Int} (hx : x ∈ must) (lt : (d.count x : Int) < lat c x) (ht : (outF may must 7 d [] x).1 = false) : ThgU c may must (outF may must 7 d [] x).2.2 := by
  have n6 := io.n6
  have q := outF_fail hmu 7 [] x (h.ot io) (hmu x hx).1 (hmu x hx).2 (fun z => nomatch z) hx (by rw [List.length_nil]; omega) ht
  exact ThgU.of h.dl q.1.ok.sn q.2 lt (fun k hk => h.cnt k (q.1.ok.sr k hk).1 (q.1.ok.sr k hk).2) (fun y hy => (q.1.new y hy).elim (fun z => nomatch z) (·.1)) fun y hy => (q.1.new y hy).elim (fun z => nomatch z) (·.2)
theorem outW_ok {c : List Int} {may : List (List Int)} (io : InOk c may) {must : List Int} (hmu : ∀ y ∈ must, 0 ≤ y ∧ y < (c.length : Int)) {x : Int} (hx : x ∈ must) : ∀ (m : Nat) (d : List Int), EOk c may d → m = (lat c x - d.count x).toNat → ((outW c may must x m d).1 = true → EOk c may (outW c may must x m d).2.1 ∧ lat c x ≤ (outW c may must x m d).2.1.count x ∧ ∀ y ∈ must, (d.count y : Int) ≤ (outW c may must x m d).2.1.count y) ∧ ((outW c may must x m d).1 = false → ThgU c may must (outW c may must x m d).2.2)
  | 0, d, h, hm => ⟨fun _ => ⟨h, (by show lat c x ≤ (d.count x : Int); omega), fun _ _ => Int.le_refl _⟩, fun z => by cases z⟩
  | m + 1, d, h, hm => by
    have lt : (d.count x : Int) < lat c x := by omega
    unfold outW
    by_cases ht : (outF may must 7 d [] x).1 = true
    · rw [if_pos ht]
      have g := h.out io hmu hx lt ht
      have ih := outW_ok io hmu hx m _ g.1 (by rw [g.2.1]; omega)
      refine ⟨fun z => ?_, ih.2⟩
      have q := ih.1 z
      exact ⟨q.1, q.2.1, fun y hy => Int.le_trans (g.2.2 y hy) (q.2.2 y hy)⟩
    · rw [if_neg ht]
      exact ⟨fun z => absurd z ht, fun z => h.many io hmu hx lt z⟩
theorem outM_ok {c : List Int} {may : List (List Int)} (io : InOk c may) {must : List Int} (hmu : ∀ y ∈ must, 0 ≤ y ∧ y < (c.length : Int)) : ∀ (xs d : List Int), EOk c may d → (∀ x ∈ xs, x ∈ must) → ((outM c may must xs d).1 = true → EOk c may (outM c may must xs d).2.1 ∧ (∀ x ∈ xs, lat c x ≤ (outM c may must xs d).2.1.count x) ∧ ∀ y ∈ must, (d.count y : Int) ≤ (outM c may must xs d).2.1.count y) ∧ ((outM c may must xs d).1 = false → ThgU c may must (outM c may must xs d).2.2)
  | [], d, h, _ => ⟨fun _ => ⟨h, fun _ z => (nomatch z), fun _ _ => Int.le_refl _⟩, fun z => by cases z⟩
  | x :: xs, d, h, hxs => by
    have hx := hxs x (.head _)
    have W := outW_ok io hmu hx _ d h rfl
    unfold outM
    generalize outW c may must x (lat c x - d.count x).toNat d = r at W
    by_cases ht : r.1 = true
    · rw [if_pos ht]
      have g := W.1 ht
      have ih := outM_ok io hmu xs _ g.1 fun y hy => hxs y (.tail _ hy)
      refine ⟨fun z => ?_, ih.2⟩
      have q := ih.1 z
      refine ⟨q.1, fun y hy => ?_, fun y hy => Int.le_trans (g.2.2 y hy) (q.2.2 y hy)⟩
      rcases List.mem_cons.mp hy with rfl | w
      · exact Int.le_trans g.2.1 (q.2.2 _ hx)
      · exact q.2.1 y w
    · rw [if_neg ht]
      exact ⟨fun z => absurd z ht, W.2⟩
def lookF (c : List Int) (may : List (List Int)) (must : List Int) : Nat × List Int :=
  if (givL c may (numsF may.length) (startF c.length may)).1 = true then
    (if (outM c may must must (givL c may (numsF may.length) (startF c.length may)).2.1).1 = true then (0, (outM c may must must (givL c may (numsF may.length) (startF c.length may)).2.1).2.1)
      else (2, sortI (outM c may must must (givL c may (numsF may.length) (startF c.length may)).2.1).2.2))
  else (1, sortI (givL c may (numsF may.length) (startF c.length may)).2.2)
structure IsDeal (c : List Int) (may : List (List Int)) (must d : List Int) : Prop where
  ok : EOk c may d
  full : ∀ y ∈ must, lat c y ≤ d.count y
structure IsAsk (c : List Int) (may : List (List Int)) (S : List Int) : Prop where
  u : AskU c may S
  lt : S.Pairwise (· < ·)
structure IsThg (c : List Int) (may : List (List Int)) (must S : List Int) : Prop where
  u : ThgU c may must S
  lt : S.Pairwise (· < ·)
theorem sort_lt {S : List Int} (nd : S.Nodup) : (sortI S).Pairwise (· < ·) := by
  have h1 := sortI_le S
  have h2 : (sortI S).Nodup := (sortI_perm S).nodup_iff.mpr nd
  have := h1.and h2
  exact this.imp fun h => by omega
theorem sort_mem {S : List Int} {x : Int} : x ∈ sortI S ↔ x ∈ S := (sortI_perm S).mem_iff
theorem AskU.sorted {c : List Int} {may : List (List Int)} {S : List Int} (h : AskU c may S) : IsAsk c may (sortI S) := by
  refine ⟨⟨fun e => h.ne ?_, (sortI_perm S).nodup_iff.mpr h.nd, fun b hb => h.rg b (sort_mem.mp hb), ?_⟩, sort_lt h.nd⟩
  · have := (sortI_perm S).length_eq
    rw [e] at this
    exact List.eq_nil_of_length_eq_zero this.symm
  · have : ((numsF c.length).filter fun k => (sortI S).any fun b => (may.getD b.toNat []).contains k) = (numsF c.length).filter fun k => S.any fun b => (may.getD b.toNat []).contains k := List.filter_congr fun k _ => by
      rw [Bool.eq_iff_iff, List.any_eq_true, List.any_eq_true]
      exact ⟨fun ⟨b, h1, h2⟩ => ⟨b, sort_mem.mp h1, h2⟩, fun ⟨b, h1, h2⟩ => ⟨b, sort_mem.mpr h1, h2⟩⟩
    rw [this, (sortI_perm S).length_eq]
    exact h.sum
theorem ThgU.sorted {c : List Int} {may : List (List Int)} {must S : List Int} (h : ThgU c may must S) : IsThg c may must (sortI S) := by
  refine ⟨⟨fun e => h.ne ?_, (sortI_perm S).nodup_iff.mpr h.nd, fun b hb => h.sub b (sort_mem.mp hb), ?_⟩, sort_lt h.nd⟩
  · have := (sortI_perm S).length_eq
    rw [e] at this
    exact List.eq_nil_of_length_eq_zero this.symm
  · have : (may.filter fun r => r.any fun y => (sortI S).contains y) = may.filter fun r => r.any fun y => S.contains y := List.filter_congr fun r _ => by
      congr 1
      funext y
      rw [Bool.eq_iff_iff]
      simp only [List.contains_iff_mem]
      exact sort_mem
    rw [this, sum_perm (sortI_perm S)]
    exact h.sum
theorem giv_eok {c : List Int} {may : List (List Int)} (io : InOk c may) (c0 : ∀ x ∈ c, 0 ≤ x) (h : (givL c may (numsF may.length) (startF c.length may)).1 = true) : EOk c may (givL c may (numsF may.length) (startF c.length may)).2.1 := by
  have q := (givL_ok io (numsF may.length) _ (start_ok io c0) fun a ha => mem_nums.mp ha).1 h
  refine ⟨q.1.g.dl, fun a a0 a1 => ?_, q.1.cnt⟩
  rcases q.1.mem a a0 a1 with z | z
  · have := q.2.1 a (mem_nums.mpr ⟨a0, a1⟩)
    omega
  · exact z
theorem look_ok {c : List Int} {may : List (List Int)} (io : InOk c may) (c0 : ∀ x ∈ c, 0 ≤ x) {must : List Int} (hmu : ∀ y ∈ must, 0 ≤ y ∧ y < (c.length : Int)) : ((lookF c may must).1 = 0 ∧ IsDeal c may must (lookF c may must).2) ∨ ((lookF c may must).1 = 1 ∧ IsAsk c may (lookF c may must).2) ∨ ((lookF c may must).1 = 2 ∧ IsThg c may must (lookF c may must).2) := by
  have q := (givL_ok io (numsF may.length) _ (start_ok io c0) fun a ha => mem_nums.mp ha).2
  have e := giv_eok io c0
  unfold lookF
  generalize givL c may (numsF may.length) (startF c.length may) = g at q e
  by_cases hg : g.1 = true
  · rw [if_pos hg]
    have o := outM_ok io hmu must g.2.1 (e hg) fun _ z => z
    generalize outM c may must must g.2.1 = r at o
    by_cases hr : r.1 = true
    · rw [if_pos hr]
      exact .inl ⟨rfl, (o.1 hr).1, (o.1 hr).2.1⟩
    · rw [if_neg hr]
      exact .inr (.inr ⟨rfl, (o.2 (by simpa using hr)).sorted⟩)
  · rw [if_neg hg]
    exact .inr (.inl ⟨rfl, (q (by simpa using hg)).sorted⟩)
end
end K35
namespace K35
open PySem L2 Fra
section
variable {P : Program} {w : World} {K : PySem.W.Frag} {mg : Str → Option Value} {base : Heap}
def tPaper (x : Str) (S : List Int) : Tr := .tp [tn, .tp [tx x, tInts S]]
def tOut (r : Rs) : Tr := if r.1 = true then .tp [tInts r.2.1, tn] else tPaper "things" (sortI r.2.2)
def tGiv (c : List Int) (may : List (List Int)) (must : List Int) (r : Rs) : Tr := if r.1 = true then tOut (outM c may must must r.2.1) else tPaper "askers" (sortI r.2.2)
def tLook (c : List Int) (may : List (List Int)) (must : List Int) : Tr := tGiv c may must (givL c may (numsF may.length) (startF c.length may))
structure LkOk (c : List Int) (may : List (List Int)) (must : List Int) : Prop where
  io : InOk c may
  c0 : ∀ x ∈ c, 0 ≤ x
  mu : ∀ y ∈ must, 0 ≤ y ∧ y < (c.length : Int)
def rLook (dd : List Dv) (t : Tr) : Prop := ∃ c may must, LkOk c may must ∧ dd = [dis c, .lst (may.map dis), dis must] ∧ t = tLook c may must
theorem paper_end {K : PySem.W.Frag} {G H Hc : Hp} {l p1 p2 : Addr} {x : Str} {S ms : List Int} {Q : VK} (s : Same G H) (sH : Same H Hc) (pm : ms.Perm S) (pw : ms.Pairwise (· ≤ ·)) (hl : Hc l = none) (h1 : upd Hc l (.lst (ms.map V.int)) p1 = none) (h2 : upd (upd Hc l (.lst (ms.map V.int))) p1 (.tup [.str x, .ref l]) p2 = none) (k : Kv K G H (tPaper x (sortI S)) Q) : Q (.ref p2) (upd (upd (upd Hc l (.lst (ms.map V.int))) p1 (.tup [.str x, .ref l])) p2 (.tup [.non, .ref p1])) := by
  have em : ms = sortI S := sort_unique (pm.trans (sortI_perm S).symm) pw (sortI_le S)
  subst em
  have n1 : p1 ≠ l := fun e => by rw [e, upd_same] at h1; cases h1
  have n2 : p2 ≠ p1 := fun e => by rw [e, upd_same] at h2; cases h2
  have n3 : p2 ≠ l := fun e => by rw [e, upd_ne (Ne.symm n1), upd_same] at h2; cases h2
  have hc1 : Hc p1 = none := by rw [upd_ne n1] at h1; exact h1
  have hc2 : Hc p2 = none := by rw [upd_ne n2, upd_ne n3] at h2; exact h2
  have sF : Same H (upd (upd (upd Hc l (.lst ((sortI S).map V.int))) p1 (.tup [.str x, .ref l])) p2 (.tup [.non, .ref p1])) := ((sH.trans (.new hl)).trans (.new h1)).trans (.new h2)
  have ow : OwL K G (upd (upd (upd Hc l (.lst ((sortI S).map V.int))) p1 (.tup [.str x, .ref l])) p2 (.tup [.non, .ref p1])) ((sortI S).map fun n => .fz (di n)) ((sortI S).map V.int) [] := by
    have := HvL.owl (K := K) (G := G) (H := upd (upd (upd Hc l (.lst ((sortI S).map V.int))) p1 (.tup [.str x, .ref l])) p2 (.tup [.non, .ref p1])) (ints_hvl (ns := sortI S))
    rw [List.map_map] at this
    exact this
  refine k (.ref p2) G _ [p2, p1, l] ⟨Same.refl _, sF, s.trans sF, fun a h h' => absurd h h'⟩ ⟨p2, _, [p1, l], rfl, upd_same, ⟨.non, _, [], [p1, l], rfl, rfl, ⟨rfl, rfl, rfl⟩, .ref p1, _, [p1, l], [], rfl, rfl, ⟨p1, _, [l], rfl, by rw [upd_ne (Ne.symm n2), upd_same], ⟨.str x, _, [], [l], rfl, rfl, ⟨rfl, rfl, rfl⟩, .ref l, _, [l], [], rfl, rfl, ⟨l, _, [], rfl, by rw [upd_ne (Ne.symm n3), upd_ne (Ne.symm n1), upd_same], ow, rfl⟩, rfl, rfl⟩, rfl⟩, rfl, rfl⟩, rfl⟩ ⟨fun a ha => ?_, fun a ha => ?_, ?_⟩
  · rcases List.mem_cons.mp ha with rfl | ha
    · exact sH.free hc2
    · rcases List.mem_cons.mp ha with rfl | ha
      · exact sH.free hc1
      · rw [List.mem_singleton.mp ha]; exact sH.free hl
  · rcases List.mem_cons.mp ha with rfl | ha
    · exact s.free (sH.free hc2)
    · rcases List.mem_cons.mp ha with rfl | ha
      · exact s.free (sH.free hc1)
      · rw [List.mem_singleton.mp ha]; exact s.free (sH.free hl)
  · simp [n1, n2, n3]
theorem deal_end {K : PySem.W.Frag} {G H Hc : Hp} {l p2 : Addr} {d : List Int} {Q : VK} (s : Same G H) (sH : Same H Hc) (hl0 : H l = none) (hd : ∀ y ∈ d, 0 ≤ y) (hl : Hc l = some (.lst (d.map vI))) (h2 : Hc p2 = none) (k : Kv K G H (.tp [tInts d, tn]) Q) : Q (.ref p2) (upd Hc p2 (.tup [.ref l, .non])) := by
  have e : d.map vI = d.map V.int := List.map_congr_left fun y hy => vI_pos (hd y hy)
  rw [e] at hl
  have n2 : p2 ≠ l := fun e => by rw [e, hl] at h2; cases h2
  have sF : Same H (upd Hc p2 (.tup [.ref l, .non])) := sH.trans (.new h2)
  have ow : OwL K G (upd Hc p2 (.tup [.ref l, .non])) (d.map fun n => .fz (di n)) (d.map V.int) [] := by
    have := HvL.owl (K := K) (G := G) (H := upd Hc p2 (.tup [.ref l, .non])) (ints_hvl (ns := d))
    rw [List.map_map] at this
    exact this
  refine k (.ref p2) G _ [p2, l] ⟨Same.refl _, sF, s.trans sF, fun a h h' => absurd h h'⟩ ⟨p2, _, [l], rfl, upd_same, ⟨.ref l, _, [l], [], rfl, rfl, ⟨l, _, [], rfl, by rw [upd_ne (Ne.symm n2)]; exact hl, ow, rfl⟩, .non, _, [], [], rfl, rfl, ⟨rfl, rfl, rfl⟩, rfl, rfl⟩, rfl⟩ ⟨fun a ha => ?_, fun a ha => ?_, ?_⟩
  · rcases List.mem_cons.mp ha with rfl | ha
    · exact sH.free h2
    · rw [List.mem_singleton.mp ha]; exact hl0
  · rcases List.mem_cons.mp ha with rfl | ha
    · exact s.free (sH.free h2)
    · rw [List.mem_singleton.mp ha]; exact s.free hl0
  · simp [n2]
theorem flats_ow {α : Type} {K : PySem.W.Frag} {G H : Hp} {g : α → V} : ∀ {o : List α} {xs : List V} {fq : List Addr}, OwL K G H (o.map fun n => .fz (.fl (g n))) xs fq → xs = o.map g ∧ fq = []
  | [], _, _, h => h
  | n :: o, xs, fq, ⟨v, r, f1, f2, h1, h2, h3, h4⟩ => by
    obtain ⟨rfl, h5⟩ := h3
    obtain ⟨e1, e2⟩ := flats_ow h4
    subst h1 h2 e1 e2
    exact ⟨by rw [hvi h5]; rfl, rfl⟩
abbrev s_looked_for : Stmt := top 3
theorem sc_looked_for : FnScope ["counts", "may", "must", "nothing", "deal", "asker", "seen", "thing"] ["counts", "may", "must"] (defScope s_looked_for) := ⟨rfl, rfl, rfl, by decide +kernel, rfl, by decide +kernel, by decide +kernel⟩
theorem ok_looked_for {f f1 f2 : Addr} {fd fd1 fd2 : FuncData} {k : Nat} (F : Fun K "looked_for" "looked_for" s_looked_for f fd) (T : Txt mg) (K_give_thing : Kn P w K mg base CX0 (k + 8) "give_thing" f1 fd1 ["counts", "may", "deal", "asker", "seen"] (spGive K 7)) (K_deal_out : Kn P w K mg base CX0 (k + 8) "deal_out" f2 fd2 ["may", "must", "deal", "thing", "seen"] (spOut K 7)) : FnOk P w K mg base CX0 (k + 9) f fd ["counts", "may", "must"] (spT K rLook) := by
  refine F.ok sc_looked_for (fun vs H Q E h => by obtain ⟨_, _, _, _, hv, ⟨_, _, _, _, rfl, _⟩, _⟩ := h; exact hv.length.symm) fun cdv A outer s H vs Q E hr h => ?_
  obtain ⟨G, dd, t, sGH, hvs, ⟨c, may, must, lk, rfl, rfl⟩, fin⟩ := h
  obtain ⟨vc, r1, rfl, hc, vm, r2, rfl, hmv, vu, r3, rfl, huv, rfl⟩ := hvs
  have big : 1000 < sizeLine := by decide
  have A6 := lk.io.A6
  have n6 := lk.io.n6
  obtain ⟨τ2, x2, y2⟩ : ∃ τ, (∀ i, PS ((famD P w K mg base ["counts", "may", "must", "nothing", "deal", "asker", "seen", "thing"] "looked_for" (defScope s_looked_for) f (k + 8)).cx i) ((defBody s_looked_for).getD 1 (.Pass ⟨0, 0, 0, 0⟩)) τ) ∧ ∀ D σ G H, Same G H → RpD K G [none, some (.fz (.lst (may.map dis))), none, some (ti c.length), none, none, none, none] σ → (∀ v G' H' fq, Step G H G' H' → Ow K G' H' (.ow (may.map fun r => .fz (.fl (vI (if r.contains (c.length : Int) then (c.length : Int) else -1))))) v fq → Nw H G' fq → D.nx (σ.set 4 (some v)) H') → τ D σ H :=
    lc_put 4 (elcm (own := ["some"]) (fr := [3]) may dis (fun r => .fz (.fl (vI (if r.contains (c.length : Int) then (c.length : Int) else -1)))) (evi_list (ev_nm 1 rfl) rfl) (evg_nm 0 (fun _ => by show List.Nodup (["some", "nothing"] : List Str); decide)) (by decide) (by omega) (fun r hr => ⟨_, rfl, by
      exact ev_if (et_in (ev_nm 1 rfl) (ev_nm 0 rfl) rfl (by with_unfolding_all rfl)) (fun h => Ev.to (ev_nm 1 rfl) (by rw [if_pos h, vI_pos (by omega)])) (fun h => Ev.to ev_non (by rw [if_neg (by rw [h]; decide), vI_neg (by omega)]))⟩) (fun dd => by rcases dd with _ | ⟨_, _⟩ <;> rfl)) (fun i => lcs ⟨rfl, rfl, by decide +kernel, by decide +kernel, by decide +kernel, by decide +kernel⟩) (fun _ => sc_looked_for.nd)
  refine ⟨_, pss_cons (ps_set (i := 3) sc_looked_for.nd rfl (by first | exact Or.inl rfl | exact Or.inr rfl) (uE_ok (F := famD P w K mg base ["counts", "may", "must", "nothing", "deal", "asker", "seen", "thing"] "looked_for" (defScope s_looked_for) f (k + 8)) ⟨cdv, A, outer, s, H, E, hr⟩)) (pss_cons (x2 ⟨cdv, A, outer, s, H, E, hr⟩)
    (pss_cons (ps_for PassesOwn.never rfl (pi_range1 (by rfl) T.b_range (pa_cons (uE_ok (F := famD P w K mg base ["counts", "may", "must", "nothing", "deal", "asker", "seen", "thing"] "looked_for" (defScope s_looked_for) f (k + 8)) ⟨cdv, A, outer, s, H, E, hr⟩) pa_nil)) (pg_name (i := 5) sc_looked_for.nd rfl (by first | exact Or.inl rfl | exact Or.inr rfl))
      (pss_cons (ps_set (i := 6) sc_looked_for.nd rfl (by first | exact Or.inl rfl | exact Or.inr rfl) pe_dnewK)
      (pss_one (ps_if (PW.pt (pw_and (pt_cmp (pc_isN (pe_ix ix_list (pv 4) (pv 5) (fun _ _ => rfl))) rfl) (pw_and1 (pt_not (pt_val (pe_kn K_give_thing hr (by rfl) (pa_cons (pv 0) (pa_cons (pv 1) (pa_cons (pv 4) (pa_cons (pv 5) (pa_cons (pv 6) pa_nil))))))))))) (pss_one (ps_ret (pe_tup (pa_cons pe_non (pa_cons (pe_tup (pa_cons pe_str (pa_cons (pe_callB (call_sortedD rfl) (by rfl) T.b_sorted bt_sorted (pa_cons (pv 6) pa_nil)) pa_nil))) pa_nil))))) pss_nil))))
    (pss_cons (ps_for PassesOwn.never rfl (pi_list (pv 2)) (pg_name (i := 7) sc_looked_for.nd rfl (by first | exact Or.inl rfl | exact Or.inr rfl))
      (pss_one (ps_while PassesOwn.never (uT_ok (F := famD P w K mg base ["counts", "may", "must", "nothing", "deal", "asker", "seen", "thing"] "looked_for" (defScope s_looked_for) f (k + 8)) ⟨cdv, A, outer, s, H, E, hr⟩)
        (pss_cons (ps_set (i := 6) sc_looked_for.nd rfl (by first | exact Or.inl rfl | exact Or.inr rfl) pe_dnewK)
        (pss_one (ps_if (pt_not (pt_val (pe_kn K_deal_out hr (by rfl) (pa_cons (pv 1) (pa_cons (pv 2) (pa_cons (pv 4) (pa_cons (pv 7) (pa_cons (pv 6) pa_nil)))))))) (pss_one (ps_ret (pe_tup (pa_cons pe_non (pa_cons (pe_tup (pa_cons pe_str (pa_cons (pe_callB (call_sortedD rfl) (by rfl) T.b_sorted bt_sorted (pa_cons (pv 6) pa_nil)) pa_nil))) pa_nil))))) pss_nil))))))
    (pss_one (ps_ret (pe_tup (pa_cons (pv 4) (pa_cons pe_non pa_nil)))))))), ?_⟩
  show tSeq _ _ _ [some vc, some vm, some vu, none, none, none, none, none] H
  obtain ⟨lu, xu, rfl, squ, hvu⟩ := huv
  have := hvl_ints hvu
  subst this
  have huv : Hv K G (dis must) (.ref lu) := ⟨lu, _, rfl, squ, hvu⟩
  refine uE_of (ρ := [some (.fz (dis c)), none, none, none, none, none, none, none]) (ev_len T.b_len (ev_nm 0 rfl) (.inl rfl)) (Same.refl H) (OwS.rpd (H := H) (fp := []) ⟨_, _, [], [], rfl, rfl, ⟨rfl, hc.mono sGH⟩, _, _, rfl, _, _, rfl, _, _, rfl, _, _, rfl, _, _, rfl, _, _, rfl, _, _, rfl, rfl, rfl⟩) fun v1 G1 H1 fq1 s1 o1 w1 => ?_
  have e1 : v1 = .int (c.length : Nat) := by
    have := hvi o1.2
    rw [List.length_map] at this
    exact this
  subst e1
  dsimp only [gName, List.set]
  refine y2 _ _ H1 H1 (Same.refl _) (OwS.rpd (H := H1) (fp := []) ⟨_, _, rfl, _, _, [], [], rfl, rfl, ⟨rfl, hmv.mono (sGH.trans s1.h)⟩, _, _, rfl, _, _, [], [], rfl, rfl, ⟨rfl, rfl, rfl⟩, _, _, rfl, _, _, rfl, _, _, rfl, _, _, rfl, rfl, rfl⟩) fun v2 G2 H2 fq2 s2 o2 w2 => ?_
  obtain ⟨ld, xs, fx, rfl, hld, ox, rfl⟩ := o2
  obtain ⟨rfl, rfl⟩ := flats_ow ox
  have hld0 : H ld = none := s1.h.free (w2.n ld (.head _))
  have sH2 : Same H H2 := s1.h.trans s2.h
  have hst : H2 ld = some (.lst ((startF c.length may).map vI)) := by
    unfold startF
    rw [List.map_map]; exact hld
  have Gld : G ld = none := sGH.free hld0
  show tSeq _ _ _ [some vc, some vm, some (.ref lu), some (.int (c.length : Nat)), some (.ref ld), none, none, none] H2
  refine uE_of (ρ := [none, some (.fz (.lst (may.map dis))), none, none, none, none, none, none]) (ev_len T.b_len (ev_nm 1 rfl) (.inl rfl)) (Same.refl H2) (OwS.rpd (H := H2) (fp := []) ⟨_, _, rfl, _, _, [], [], rfl, rfl, ⟨rfl, hmv.mono (sGH.trans sH2)⟩, _, _, rfl, _, _, rfl, _, _, rfl, _, _, rfl, _, _, rfl, _, _, rfl, rfl, rfl⟩) fun vl G3 H3 fq3 s3 o3 w3 => ?_
  have en : ((may.map dis).length : Int) = may.length := by rw [List.length_map]
  refine ⟨_, by rw [hvi o3.2], by rw [en]; omega, by rw [en]; omega, ?_⟩
  rw [en, Int.toNat_natCast]
  have sH3 : Same H H3 := sH2.trans s3.h
  have fin1 : Kv K G H (tGiv c may must (givL c may ((numsF may.length).drop 0) (startF c.length may))) Q := fin
  have eok := giv_eok lk.io lk.c0
  rw [show givL c may (numsF may.length) (startF c.length may) = givL c may ((numsF may.length).drop 0) (startF c.length may) from rfl] at eok
  generalize hres : givL c may ((numsF may.length).drop 0) (startF c.length may) = res at fin1 eok
  refine for_range (fun i σ Hc => ∃ o5 o6 d', σ = [some vc, some vm, some (.ref lu), some (.int (c.length : Nat)), some (.ref ld), o5, o6, none] ∧ Same H Hc ∧ Hc ld = some (.lst (d'.map vI)) ∧ DOk c may d' ∧ givL c may ((numsF may.length).drop i) d' = res)
    ⟨none, none, _, rfl, sH3, s3.h _ _ hst, start_ok lk.io lk.c0, hres⟩ ?_ ?_
  · rintro i σ Hc hi ⟨o5, o6, d', rfl, sHc, hd, dok, hr'⟩
    have hdrop : (numsF may.length).drop i = (0 + (i : Int)) :: (numsF may.length).drop (i + 1) := by
      rw [List.drop_eq_getElem_cons (by rw [nums_len]; exact hi)]
      congr 1
      unfold numsF
      rw [List.getElem_map, List.getElem_range]
    rw [hdrop] at hr'
    have a0 : (0 : Int) ≤ 0 + (i : Int) := by omega
    have a1 : 0 + (i : Int) < may.length := by omega
    generalize (0 + (i : Int)) = a at hr' a0 a1 ⊢
    dsimp only [gName, List.set]
    intro ls hls
    dsimp only [gName, List.set]
    have sH4 : Same H (upd Hc ls (.dK [])) := sHc.trans (.new hls)
    have nls : ld ≠ ls := fun e => by rw [← e, hd] at hls; cases hls
    have hls0 : H ls = none := sHc.free hls
    have gs : GS ld ls (upd Hc ls (.dK [])) d' [] := ⟨by rw [upd_ne nls]; exact hd, upd_same⟩
    generalize upd Hc ls (.dK []) = H4 at sH4 gs
    refine ⟨_, rfl, _, rfl, ld, _, _, vI (lat d' a), rfl, rfl, SqL.of gs.d, lat_at vI a0 (by rw [dok.g.dl]; exact a1), _, rfl, ?_⟩
    unfold givL at hr'
    by_cases hn : lat d' a < 0
    · rw [if_pos hn] at hr'
      rw [show decide (vI (lat d' a) = V.non) = true from decide_eq_true (vI_neg hn)]
      refine iteT ?_
      refine ⟨_, rfl, _, rfl, _, rfl, _, rfl, _, rfl, ?_⟩
      dsimp only [tNil, List.cons_append, List.nil_append]
      have nn := dok.nn a0 a1 hn
      have kp := giv_ok lk.io 7 d' [] a dok.g a0 a1 (fun z => nomatch z) nn
      have gv := dok.give lk.io a0 a1 hn
      refine ⟨c, may, vc, vm, ld, ls, G, d', [], a, rfl, sGH.trans sH4, hc, hmv, fun b hb => ?_, nls, gs, lk.io, dok.g, a0, a1, (fun z => nomatch z), nn, by rw [List.length_nil]; omega, fun H5 md5 g5 => ⟨_, rfl, ?_⟩⟩
      · rcases List.mem_cons.mp hb with rfl | hb
        · exact Gld
        · rw [List.mem_singleton.mp hb]; exact sGH.free hls0
      have sH5 : Same H H5 := md_same sH4 (fun b hb => by
        rcases List.mem_cons.mp hb with rfl | hb
        · exact hld0
        · rw [List.mem_singleton.mp hb]; exact hls0) md5
      generalize givF c may 7 d' [] a = r at *
      by_cases hb : r.1 = true
      · rw [hb]
        rw [if_pos hb] at hr'
        exact iteF ⟨_, _, r.2.1, rfl, sH5, g5.d, (gv hb).1, hr'⟩
      · have hb' : r.1 = false := by simpa using hb
        rw [hb']
        rw [if_neg hb] at hr'
        refine iteT ?_
        have sl := seen_le kp.ok.sr kp.ok.sn
        refine ⟨_, rfl, ls, r.2.2, rfl, g5.s, by omega, fun l ms hl pm pw => ⟨by show 2 ≤ sizeLine; omega, fun p1 hp1 => ⟨by show 2 ≤ sizeLine; omega, fun p2 hp2 => ?_⟩⟩⟩
        unfold tGiv at fin1
        rw [← hr', if_neg hb] at fin1
        exact paper_end sGH sH5 pm pw hl hp1 hp2 fin1
    · rw [if_neg hn] at hr'
      rw [show decide (vI (lat d' a) = V.non) = false from decide_eq_false (by rw [vI_pos (by omega)]; exact fun z => nomatch z)]
      exact iteF (iteF ⟨_, _, d', rfl, sH4, gs.d, dok, hr'⟩)
  · rintro σ Hc ⟨o5, o6, d', rfl, sHc, hd, dok, hr'⟩
    rw [List.drop_of_length_le (by rw [nums_len]; exact Nat.le_refl _)] at hr'
    unfold givL at hr'
    rw [← hr'] at eok fin1
    have ek : EOk c may d' := eok rfl
    have fin2 : Kv K G H (tOut (outM c may must (must.drop 0) d')) Q := fin1
    generalize hres2 : outM c may must (must.drop 0) d' = res2 at fin2
    refine tFor_name (j := 2) (a := lu) (xs := must.map V.int) rfl ((sGH.trans sHc).seq squ) (fun i σ Hc => ∃ o5 o6 o7 d', σ = [some vc, some vm, some (.ref lu), some (.int (c.length : Nat)), some (.ref ld), o5, o6, o7] ∧ Same H Hc ∧ Hc ld = some (.lst (d'.map vI)) ∧ EOk c may d' ∧ outM c may must (must.drop i) d' = res2)
      ⟨_, _, _, d', rfl, sHc, hd, ek, hres2⟩ (fun i σ Hc _ h => by obtain ⟨_, _, _, _, _, m, _⟩ := h; exact (sGH.trans m).seq squ) ?_ ?_
    · rintro i v σ Hc hv ⟨o5, o6, o7, d', rfl, sHc, hd, ek, hr'⟩
      obtain ⟨x, hx, rfl⟩ := map_get hv
      have hxm := List.mem_of_getElem? hx
      have hxr := lk.mu x hxm
      have hdrop : must.drop i = x :: must.drop (i + 1) := by
        obtain ⟨h1, h2⟩ := List.getElem?_eq_some_iff.mp hx
        rw [List.drop_eq_getElem_cons h1, h2]
      rw [hdrop] at hr'
      unfold outM at hr'
      dsimp only [gName, List.set]
      refine ⟨fun m σ Hc => ∃ o5 o6 d', σ = [some vc, some vm, some (.ref lu), some (.int (c.length : Nat)), some (.ref ld), o5, o6, some (.int x)] ∧ Same H Hc ∧ Hc ld = some (.lst (d'.map vI)) ∧ EOk c may d' ∧ m = (lat c x - d'.count x).toNat ∧ (if (outW c may must x m d').1 = true then outM c may must (must.drop (i + 1)) (outW c may must x m d').2.1 else outW c may must x m d') = res2, ⟨_, _, _, d', rfl, sHc, hd, ek, rfl, hr'⟩, ?_⟩
      rintro m σ Hc ⟨o5, o6, d', rfl, sHc, hd, ek, hm, hr'⟩
      refine uT_of (ρ := [some (.fz (dis c)), none, none, none, some (.fz (.lst ((d'.map vI).map .fl))), none, none, some (ti x)]) (Et.to (et_lt (ev_countF (v := .int x) (ev_nm 4 rfl) rfl (ev_nm 7 rfl)) (ev_ix (d := di (lat c x)) (ev_nm 0 rfl) (ev_nm 7 rfl) rfl (lat_at di hxr.1 hxr.2))) (q := decide ((d'.count x : Int) < lat c x)) (by rw [count_vI hxr.1])) (Same.refl Hc) (OwS.rpd (H := Hc) (fp := []) ⟨_, _, [], [], rfl, rfl, ⟨rfl, hc.mono (sGH.trans sHc)⟩, _, _, rfl, _, _, rfl, _, _, rfl, _, _, [], [], rfl, rfl, ⟨rfl, ld, _, rfl, SqL.of hd, hvl_vI d'⟩, _, _, rfl, _, _, rfl, _, _, [], [], rfl, rfl, ⟨rfl, rfl, rfl⟩, rfl, rfl⟩) fun G6 H6 st6 => ?_
      have sH6 : Same H H6 := sHc.trans st6.h
      have hd6 := st6.h _ _ hd
      by_cases hlt : (d'.count x : Int) < lat c x
      · rw [decide_eq_true hlt]
        obtain ⟨m', rfl⟩ : ∃ m', m = m' + 1 := ⟨m - 1, by omega⟩
        unfold outW at hr'
        refine iteT ?_
        refine ⟨_, fun σ' H' hN => ⟨m', Nat.lt_succ_self _, hN⟩, ?_⟩
        intro ls hls
        dsimp only [gName, List.set]
        have sH7 : Same H (upd H6 ls (.dK [])) := sH6.trans (.new hls)
        have nls : ld ≠ ls := fun e => by rw [← e, hd6] at hls; cases hls
        have hls0 : H ls = none := sH6.free hls
        have gs : GS ld ls (upd H6 ls (.dK [])) d' [] := ⟨by rw [upd_ne nls]; exact hd6, upd_same⟩
        generalize upd H6 ls (.dK []) = H7 at sH7 gs
        refine ⟨_, rfl, _, rfl, _, rfl, _, rfl, _, rfl, ?_⟩
        dsimp only [tNil, List.cons_append, List.nil_append]
        have kp := outF_ok (may := may) lk.mu 7 d' [] x (ek.ot lk.io) hxr.1 hxr.2 (fun z => nomatch z)
        have gv := ek.out lk.io lk.mu hxm hlt
        refine ⟨c.length, may, must, vm, .ref lu, ld, ls, G, d', [], x, rfl, sGH.trans sH7, hmv, huv, fun b hb => ?_, nls, gs, A6, n6, lk.mu, ek.ot lk.io, hxr.1, hxr.2, (fun z => nomatch z), by rw [List.length_nil]; omega, fun H8 md8 g8 => ⟨_, rfl, ?_⟩⟩
        · rcases List.mem_cons.mp hb with rfl | hb
          · exact Gld
          · rw [List.mem_singleton.mp hb]; exact sGH.free hls0
        have sH8 : Same H H8 := md_same sH7 (fun b hb => by
          rcases List.mem_cons.mp hb with rfl | hb
          · exact hld0
          · rw [List.mem_singleton.mp hb]; exact hls0) md8
        generalize outF may must 7 d' [] x = r at *
        by_cases hb : r.1 = true
        · rw [hb]
          rw [if_pos hb] at hr'
          exact iteF ⟨_, _, r.2.1, rfl, sH8, g8.d, (gv hb).1, by rw [(gv hb).2.1]; omega, hr'⟩
        · have hb' : r.1 = false := by simpa using hb
          rw [hb']
          rw [if_neg hb, if_neg hb] at hr'
          refine iteT ?_
          have sl := seen_le kp.ok.sr kp.ok.sn
          refine ⟨_, rfl, ls, r.2.2, rfl, g8.s, by omega, fun l ms hl pm pw => ⟨by show 2 ≤ sizeLine; omega, fun p1 hp1 => ⟨by show 2 ≤ sizeLine; omega, fun p2 hp2 => ?_⟩⟩⟩
          unfold tOut at fin2
          rw [← hr', if_neg hb] at fin2
          exact paper_end sGH sH8 pm pw hl hp1 hp2 fin2
      · rw [decide_eq_false hlt]
        obtain rfl : m = 0 := by omega
        unfold outW at hr'
        exact iteF ⟨_, _, _, d', rfl, sH6, hd6, ek, hr'⟩
    · rintro σ Hc ⟨o5, o6, o7, d', rfl, sHc, hd, ek, hr'⟩
      rw [List.length_map, List.drop_length] at hr'
      unfold outM at hr'
      unfold tOut at fin2
      rw [← hr', if_pos rfl] at fin2
      refine ⟨_, rfl, by show 2 ≤ sizeLine; omega, fun p2 hp2 => ?_⟩
      exact deal_end sGH sHc hld0 (fun y hy => ((ek.ot lk.io).dr y hy).1) hd hp2 fin2
def lookD (r : Nat × List Int) : Tr := if r.1 = 0 then tInts r.2 else tn
def lookP (r : Nat × List Int) : Tr := if r.1 = 0 then tn else .tp [tx (if r.1 = 1 then "askers" else "things"), tInts r.2]
theorem tLook_eq (c : List Int) (may : List (List Int)) (must : List Int) : tLook c may must = .tp [lookD (lookF c may must), lookP (lookF c may must)] := by
  unfold tLook tGiv tOut lookF
  generalize givL c may (numsF may.length) (startF c.length may) = g
  by_cases h : g.1 = true
  · rw [if_pos h, if_pos h]
    generalize outM c may must must g.2.1 = o
    by_cases h2 : o.1 = true
    · rw [if_pos h2, if_pos h2]; rfl
    · rw [if_neg h2, if_neg h2]; rfl
  · rw [if_neg h, if_neg h]; rfl
def rDealOf (dd : List Dv) (t : Tr) : Prop := ∃ c may must, LkOk c may must ∧ dd = [dis c, .lst (may.map dis), dis must] ∧ t = lookD (lookF c may must)
abbrev s_deal_of : Stmt := top 4
theorem sc_deal_of : FnScope ["counts", "may", "must"] ["counts", "may", "must"] (defScope s_deal_of) := ⟨rfl, rfl, rfl, by decide +kernel, rfl, by decide +kernel, by decide +kernel⟩
theorem ok_deal_of {f f1 : Addr} {fd fd1 : FuncData} {k : Nat} (F : Fun K "deal_of" "deal_of" s_deal_of f fd) (T : Txt mg) (K_looked_for : Kn P w K mg base CX0 (k + 9) "looked_for" f1 fd1 ["counts", "may", "must"] (spT K rLook)) : FnOk P w K mg base CX0 (k + 10) f fd ["counts", "may", "must"] (spT K rDealOf) := by
  refine fn_ok F.d sc_deal_of (fun dd t h => by obtain ⟨_, _, _, _, rfl, _⟩ := h; rfl) fun dd t h => ?_
  obtain ⟨c, may, must, lk, rfl, rfl⟩ := h
  refine ⟨_, .inl rfl, ?_⟩
  exact rns_one (rn_ret (Ev.s (ev_ixO (n := 0) (ev_call K_looked_for (Nat.le_refl _) (eva_cons (ev_nm 0 rfl) (eva_cons (ev_nm 1 rfl) (eva_cons (ev_nm 2 rfl) eva_nil))) ⟨c, may, must, lk, rfl, (tLook_eq c may must).symm⟩) ev_int rfl)))
end
end K35
namespace K35
open PySem L2 Fra
section
variable {P : Program} {w : World} {K : PySem.W.Frag} {mg : Str → Option Value} {base : Heap}
def colS (L : List (List Int)) (k : Int) : Int := (L.map fun r => lat r k).sum
structure LfOk (c : List Int) (L : List (List Int)) (R : Int) : Prop where
  n6 : c.length ≤ 6
  A6 : L.length ≤ 6
  ne : L ≠ []
  c9 : ∀ x ∈ c, 0 ≤ x ∧ x ≤ 9
  row : ∀ r ∈ L, r.length = c.length + 1 ∧ (∀ x ∈ r, 0 ≤ x) ∧ r.sum = R
  col : ∀ k : Int, 0 ≤ k → k < c.length → colS L k ≤ lat c k * R
def mayOf (L : List (List Int)) : List (List Int) := L.map fun r => (numsF r.length).filter fun x => decide (0 < lat r x)
def spr (c : List Int) (L : List (List Int)) (R k : Int) : Int := lat c k * R - colS L k
def mustOf (c : List Int) (L : List (List Int)) (R : Int) : List Int := (numsF c.length).filter fun k => decide (spr c L R k = 0)
theorem getD_map' {α β : Type} (f : List α → List β) (e : f [] = []) (l : List (List α)) (n : Nat) : (l.map f).getD n [] = f (l.getD n []) := by
  rw [List.getD_eq_getElem?_getD, List.getD_eq_getElem?_getD, List.getElem?_map]
  cases l[n]? with
  | none => exact e.symm
  | some v => rfl
theorem may_row (L : List (List Int)) (a : Int) : (mayOf L).getD a.toNat [] = (numsF (L.getD a.toNat []).length).filter fun x => decide (0 < lat (L.getD a.toNat []) x) := by
  unfold mayOf
  rw [getD_map' (fun r => (numsF r.length).filter fun x => decide (0 < lat r x)) rfl]
theorem may_mem {L : List (List Int)} {a x : Int} : x ∈ (mayOf L).getD a.toNat [] ↔ (0 ≤ x ∧ x < (L.getD a.toNat []).length) ∧ 0 < lat (L.getD a.toNat []) x := by
  rw [may_row, List.mem_filter, mem_nums, decide_eq_true_iff]
theorem LfOk.lk {c : List Int} {L : List (List Int)} {R : Int} (h : LfOk c L R) : LkOk c (mayOf L) (mustOf c L R) := by
  refine ⟨⟨h.n6, by unfold mayOf; rw [List.length_map]; exact h.A6, fun r hr => ?_⟩, fun x hx => (h.c9 x hx).1, fun y hy => mem_nums.mp (List.mem_filter.mp hy).1⟩
  obtain ⟨r0, h0, rfl⟩ := List.mem_map.mp hr
  have hl := (h.row r0 h0).1
  have n6 := h.n6
  refine ⟨Nat.le_trans (List.length_filter_le _ _) (by rw [nums_len]; omega), fun x hx => ?_⟩
  have := mem_nums.mp (List.mem_filter.mp hx).1
  omega
theorem sum_lat (r : List Int) : ((numsF r.length).map (lat r)).sum = r.sum := by
  have := map_nums r 0
  exact congrArg List.sum this.symm
theorem sum_filt {f : Int → Int} {p : Int → Bool} : ∀ {l : List Int}, (∀ x ∈ l, p x = false → f x = 0) → ((l.filter p).map f).sum = (l.map f).sum
  | [], _ => rfl
  | x :: l, h => by
    have ih := sum_filt (f := f) (p := p) (l := l) fun y hy => h y (.tail _ hy)
    rw [List.filter_cons, List.map_cons, List.sum_cons]
    cases hp : p x with
    | true => rw [if_pos rfl, List.map_cons, List.sum_cons, ih]
    | false => rw [if_neg (by decide), ih, h x (.head _) hp]; omega
theorem sum_nonneg {f : Int → Int} : ∀ {l : List Int}, (∀ x ∈ l, 0 ≤ f x) → 0 ≤ (l.map f).sum
  | [], _ => Int.le_refl _
  | x :: l, h => by
    have := sum_nonneg (f := f) (l := l) fun y hy => h y (.tail _ hy)
    have := h x (.head _)
    rw [List.map_cons, List.sum_cons]; omega
theorem sum_sub {f : Int → Int} : ∀ {S T : List Int}, S.Nodup → (∀ x ∈ S, x ∈ T) → (∀ x ∈ T, 0 ≤ f x) → (S.map f).sum ≤ (T.map f).sum
  | [], T, _, _, h => sum_nonneg h
  | x :: S, T, nd, hs, h => by
    have n2 := List.nodup_cons.mp nd
    have hx := hs x (.head _)
    have ih := sum_sub (f := f) (S := S) (T := T.erase x) n2.2 (fun y hy => (List.mem_erase_of_ne (show y ≠ x from fun e => n2.1 (e ▸ hy))).mpr (hs y (.tail _ hy))) (fun y hy => h y (List.mem_of_mem_erase hy))
    rw [sum_perm (List.perm_cons_erase hx), List.map_cons, List.map_cons, List.sum_cons, List.sum_cons]
    omega
theorem sum_add {f g : Int → Int} : ∀ N : List Int, (N.map fun x => f x + g x).sum = (N.map f).sum + (N.map g).sum
  | [] => rfl
  | x :: N => by
    rw [List.map_cons, List.map_cons, List.map_cons, List.sum_cons, List.sum_cons, List.sum_cons, sum_add N]; omega
theorem sum_zero : ∀ N : List Int, (N.map fun _ => (0 : Int)).sum = 0
  | [] => rfl
  | _ :: N => by rw [List.map_cons, List.sum_cons, sum_zero N]; rfl
theorem sum_swap {g : Int → Int → Int} (N : List Int) : ∀ S : List Int, (S.map fun b => (N.map (g b)).sum).sum = (N.map fun x => (S.map fun b => g b x).sum).sum
  | [] => (sum_zero N).symm
  | b :: S => by
    rw [List.map_cons, List.sum_cons, sum_swap N S, ← sum_add]; rfl
theorem sum_constR (R : Int) : ∀ S : List Int, (S.map fun _ => R).sum = S.length * R
  | [] => by rw [List.map_nil, List.sum_nil]; simp
  | _ :: S => by
    rw [List.map_cons, List.sum_cons, sum_constR R S, List.length_cons, Int.natCast_add, Int.add_mul]
    show R + _ = _ + 1 * R
    omega
theorem sum_mulR {f : Int → Int} (R : Int) : ∀ S : List Int, (S.map fun x => f x * R).sum = (S.map f).sum * R
  | [] => by rw [List.map_nil, List.map_nil, List.sum_nil, Int.zero_mul]
  | _ :: S => by
    rw [List.map_cons, List.map_cons, List.sum_cons, List.sum_cons, sum_mulR R S, Int.add_mul]
theorem sum_cong {f g : Int → Int} : ∀ {N : List Int}, (∀ k ∈ N, f k = g k) → (N.map f).sum = (N.map g).sum := fun {N} h => by rw [List.map_congr_left h]
theorem colS_nums (L : List (List Int)) (k : Int) : ((numsF L.length).map fun a => lat (L.getD a.toNat []) k).sum = colS L k := by
  have h := map_nums L []
  unfold colS
  have : (L.map fun r => lat r k) = ((numsF L.length).map fun a => L.getD a.toNat []).map fun r => lat r k := by rw [← h]
  rw [this, List.map_map]; rfl
theorem lat_ge {r : List Int} (h : ∀ x ∈ r, 0 ≤ x) (x : Int) : 0 ≤ lat r x := by
  unfold lat
  rw [List.getD_eq_getElem?_getD]
  cases e : r[x.toNat]? with
  | none => exact Int.le_refl _
  | some y => exact h y (List.mem_of_getElem? e)
theorem LfOk.rowA {c : List Int} {L : List (List Int)} {R : Int} (h : LfOk c L R) {a : Int} (a0 : 0 ≤ a) (a1 : a < L.length) : (L.getD a.toNat []).length = c.length + 1 ∧ (∀ x ∈ L.getD a.toNat [], 0 ≤ x) ∧ (L.getD a.toNat []).sum = R := h.row _ (row_mem a0 a1)
theorem LfOk.ge {c : List Int} {L : List (List Int)} {R : Int} (h : LfOk c L R) (a x : Int) : 0 ≤ lat (L.getD a.toNat []) x := by
  refine lat_ge (fun y hy => ?_) x
  rw [List.getD_eq_getElem?_getD] at hy
  cases e : L[a.toNat]? with
  | none => rw [e] at hy; cases hy
  | some r =>
    rw [e] at hy
    exact (h.row r (List.mem_of_getElem? e)).2.1 y hy
theorem LfOk.no_ask {c : List Int} {L : List (List Int)} {R : Int} (h : LfOk c L R) (R0 : 0 < R) {S : List Int} (s : AskU c (mayOf L) S) : False := by
  have ml : (mayOf L).length = L.length := by unfold mayOf; rw [List.length_map]
  have hs := s.sum
  have nN : ((numsF c.length).filter fun k => S.any fun b => ((mayOf L).getD b.toNat []).contains k).Nodup := (nums_nodup _).filter _
  have hk : ∀ k ∈ (numsF c.length).filter (fun k => S.any fun b => ((mayOf L).getD b.toNat []).contains k), 0 ≤ k ∧ k < c.length := fun k hk => mem_nums.mp (List.mem_filter.mp hk).1
  have hr : ∀ b ∈ S, (((numsF c.length).filter fun k => S.any fun b => ((mayOf L).getD b.toNat []).contains k).map (lat (L.getD b.toNat []))).sum = R := fun b hb => by
    have rg := s.rg b hb
    have ro := h.rowA rg.1.1 (by rw [← ml]; exact rg.1.2)
    rw [sum_filt fun x hx hp => ?_]
    · rw [← ro.2.2, ← sum_lat (L.getD b.toNat []), ro.1]
      have : numsF (c.length + 1) = numsF c.length ++ [(c.length : Int)] := by
        unfold numsF
        rw [List.range_succ, List.map_append]
        show _ ++ [0 + (c.length : Int)] = _
        rw [Int.zero_add]
      rw [this, List.map_append, List.sum_append]
      have z : lat (L.getD b.toNat []) c.length = 0 := by
        have g := h.ge b c.length
        have : ¬ 0 < lat (L.getD b.toNat []) c.length := fun z => rg.2 (may_mem.mpr ⟨⟨by omega, by rw [ro.1]; omega⟩, z⟩)
        omega
      show _ = _ + ([lat (L.getD b.toNat []) c.length]).sum
      rw [List.sum_singleton, z]; omega
    · have g := h.ge b x
      have hx' := mem_nums.mp hx
      have : ¬ 0 < lat (L.getD b.toNat []) x := fun z => by
        have hm : x ∈ (mayOf L).getD b.toNat [] := may_mem.mpr ⟨⟨hx'.1, by rw [ro.1]; omega⟩, z⟩
        have : (S.any fun b => ((mayOf L).getD b.toNat []).contains x) = true := List.any_eq_true.mpr ⟨b, hb, by simpa using hm⟩
        rw [this] at hp; cases hp
      omega
  generalize (numsF c.length).filter (fun k => S.any fun b => ((mayOf L).getD b.toNat []).contains k) = N at hs nN hk hr
  have e1 : (S.map fun b => (N.map (lat (L.getD b.toNat []))).sum).sum = S.length * R := by rw [sum_cong hr, sum_constR]
  have e2 : (S.map fun b => (N.map (lat (L.getD b.toNat []))).sum).sum ≤ ((numsF L.length).map fun b => (N.map (lat (L.getD b.toNat []))).sum).sum := sum_sub s.nd (fun b hb => mem_nums.mpr (by rw [← ml]; exact (s.rg b hb).1)) fun b _ => sum_nonneg fun x _ => h.ge b x
  rw [sum_swap N (numsF L.length)] at e2
  have e3 : (N.map fun x => ((numsF L.length).map fun b => lat (L.getD b.toNat []) x).sum).sum ≤ (N.map fun x => lat c x * R).sum := sum_le fun x hx => by
    rw [colS_nums]
    exact h.col x (hk x hx).1 (hk x hx).2
  rw [sum_mulR] at e3
  have e4 : (N.map (lat c)).sum * R < S.length * R := Int.mul_lt_mul_of_pos_right hs R0
  omega
theorem LfOk.no_thg {c : List Int} {L : List (List Int)} {R : Int} (h : LfOk c L R) (R0 : 0 < R) {S : List Int} (s : ThgU c (mayOf L) (mustOf c L R) S) : False := by
  have ml : (mayOf L).length = L.length := by unfold mayOf; rw [List.length_map]
  have hs := s.sum
  have hk : ∀ k ∈ S, (0 ≤ k ∧ k < (c.length : Int)) ∧ lat c k * R = colS L k := fun k hk => by
    obtain ⟨q1, q2⟩ := List.mem_filter.mp (s.sub k hk)
    have := of_decide_eq_true q2
    unfold spr at this
    exact ⟨mem_nums.mp q1, by omega⟩
  rw [filt_nums (mayOf L) [], ml] at hs
  have e1 : (S.map (lat c)).sum * R = ((numsF L.length).map fun b => (S.map (lat (L.getD b.toNat []))).sum).sum := by
    rw [sum_swap S (numsF L.length), ← sum_mulR]
    exact sum_cong fun k hk' => by rw [(hk k hk').2, colS_nums]
  have e2 : ((numsF L.length).map fun b => (S.map (lat (L.getD b.toNat []))).sum).sum = (((numsF L.length).filter fun a => ((mayOf L).getD a.toNat []).any fun y => S.contains y).map fun b => (S.map (lat (L.getD b.toNat []))).sum).sum := by
    refine (sum_filt fun b hb hp => ?_).symm
    have hb' := mem_nums.mp hb
    have ro := h.rowA hb'.1 hb'.2
    rw [sum_cong (g := fun _ => 0) fun k hk' => ?_, sum_zero]
    have g := h.ge b k
    have : ¬ 0 < lat (L.getD b.toNat []) k := fun z => by
      have hm : k ∈ (mayOf L).getD b.toNat [] := may_mem.mpr ⟨⟨(hk k hk').1.1, by rw [ro.1]; have := (hk k hk').1.2; omega⟩, z⟩
      have : (((mayOf L).getD b.toNat []).any fun y => S.contains y) = true := List.any_eq_true.mpr ⟨k, hm, by simpa using hk'⟩
      rw [this] at hp; cases hp
    omega
  have e3 : (((numsF L.length).filter fun a => ((mayOf L).getD a.toNat []).any fun y => S.contains y).map fun b => (S.map (lat (L.getD b.toNat []))).sum).sum ≤ (((numsF L.length).filter fun a => ((mayOf L).getD a.toNat []).any fun y => S.contains y).map fun _ => R).sum := sum_le fun b hb => by
    have hb' := mem_nums.mp (List.mem_filter.mp hb).1
    have ro := h.rowA hb'.1 hb'.2
    rw [← ro.2.2, ← sum_lat (L.getD b.toNat [])]
    exact sum_sub s.nd (fun k hk' => mem_nums.mpr (by rw [ro.1]; have := (hk k hk').1; omega)) fun x _ => h.ge b x
  rw [sum_constR] at e3
  have e4 := Int.mul_lt_mul_of_pos_right hs R0
  omega
def dealF (c : List Int) (L : List (List Int)) (R : Int) : List Int := (lookF c (mayOf L) (mustOf c L R)).2
theorem LfOk.deal {c : List Int} {L : List (List Int)} {R : Int} (h : LfOk c L R) (R0 : 0 < R) : IsDeal c (mayOf L) (mustOf c L R) (dealF c L R) ∧ lookD (lookF c (mayOf L) (mustOf c L R)) = tInts (dealF c L R) := by
  have lk := h.lk
  rcases look_ok lk.io lk.c0 lk.mu with ⟨q, g⟩ | ⟨_, g⟩ | ⟨_, g⟩
  · refine ⟨g, ?_⟩
    unfold lookD
    rw [if_pos q]; rfl
  · exact (h.no_ask R0 g.u).elim
  · exact (h.no_thg R0 g.u).elim
def minL (l : List Int) : Int := l.foldl min (l.headD 0)
theorem foldl_min_le (l : List Int) : ∀ a : Int, l.foldl min a ≤ a ∧ (∀ x ∈ l, l.foldl min a ≤ x) ∧ (l.foldl min a = a ∨ l.foldl min a ∈ l) := by
  induction l with
  | nil => intro a; exact ⟨Int.le_refl _, fun _ h => (nomatch h), .inl rfl⟩
  | cons y l ih =>
    intro a
    obtain ⟨h1, h2, h3⟩ := ih (min a y)
    rw [List.foldl_cons]
    refine ⟨by omega, fun x hx => ?_, ?_⟩
    · rcases List.mem_cons.mp hx with rfl | hx
      · omega
      · exact h2 x hx
    · rcases h3 with h3 | h3
      · rcases Int.le_total a y with z | z
        · left; omega
        · right; rw [h3, Int.min_eq_right z]; exact .head _
      · right; exact .tail _ h3
theorem minL_le {l : List Int} {x : Int} (h : x ∈ l) : minL l ≤ x := (foldl_min_le l _).2.1 x h
theorem minL_mem {l : List Int} (h : l ≠ []) : minL l ∈ l := by
  cases l with
  | nil => exact absurd rfl h
  | cons a r =>
    rcases (foldl_min_le (a :: r) a).2.2 with z | z
    · show (a :: r).foldl min a ∈ _
      rw [z]; exact .head _
    · exact z
def unu (c d : List Int) (k : Int) : Int := lat c k - (d.count k : Int)
def wtsF (c : List Int) (L : List (List Int)) (R : Int) (d : List Int) : List Int := ((numsF L.length).map fun a => 2520 * lat (L.getD a.toNat []) (lat d a)) ++ ((numsF c.length).filter fun k => decide (0 < unu c d k)).map fun k => spr c L R k * (2520 / unu c d k)
def wF (c : List Int) (L : List (List Int)) (R : Int) (d : List Int) : Int × Int := fW 2520 (minL (wtsF c L R d))
structure WOk (c : List Int) (L : List (List Int)) (R : Int) (d : List Int) (p q : Int) : Prop where
  p0 : 0 < p
  q0 : 0 < q
  q9 : q ≤ 9
  ent : ∀ a : Int, 0 ≤ a → a < L.length → p ≤ lat (L.getD a.toNat []) (lat d a) * q
  sp : ∀ k : Int, 0 ≤ k → k < c.length → p * unu c d k ≤ spr c L R k * q
  hit : (∃ a : Int, 0 ≤ a ∧ a < L.length ∧ p = lat (L.getD a.toNat []) (lat d a) * q) ∨ ∃ k : Int, 0 ≤ k ∧ k < c.length ∧ 0 < unu c d k ∧ p * unu c d k = spr c L R k * q
theorem div2520 {u : Int} (u0 : 0 < u) (u9 : u ≤ 9) : 2520 / u * u = 2520 ∧ 0 < 2520 / u := by
  have key : ∀ m : Fin 10, 0 < m.val → (2520 : Int) / (m.val : Nat) * (m.val : Nat) = 2520 ∧ 0 < (2520 : Int) / (m.val : Nat) := by decide
  have e : u = (u.toNat : Nat) := (Int.toNat_of_nonneg (Int.le_of_lt u0)).symm
  have h := key ⟨u.toNat, by omega⟩ (by show 0 < u.toNat; omega)
  rw [e]
  exact h
structure DlOk (c : List Int) (L : List (List Int)) (R : Int) (d : List Int) : Prop where
  dl : d.length = L.length
  dr : ∀ x ∈ d, 0 ≤ x ∧ x ≤ c.length
  pos : ∀ a : Int, 0 ≤ a → a < L.length → (0 ≤ lat d a ∧ lat d a ≤ c.length) ∧ 0 < lat (L.getD a.toNat []) (lat d a)
  u : ∀ k : Int, 0 ≤ k → k < c.length → 0 ≤ unu c d k ∧ unu c d k ≤ 9 ∧ (spr c L R k = 0 → unu c d k = 0)
theorem LfOk.dlok {c : List Int} {L : List (List Int)} {R : Int} (h : LfOk c L R) {d : List Int} (g : IsDeal c (mayOf L) (mustOf c L R) d) : DlOk c L R d := by
  have ml : (mayOf L).length = L.length := by unfold mayOf; rw [List.length_map]
  refine ⟨by rw [g.ok.dl, ml], fun x hx => (g.ok.ot h.lk.io).dr x hx, fun a a0 a1 => ?_, fun k k0 k1 => ?_⟩
  · have := may_mem.mp (g.ok.mem a a0 (by rw [ml]; exact a1))
    have ro := h.rowA a0 a1
    exact ⟨⟨this.1.1, by have := this.1.2; rw [ro.1] at this; omega⟩, this.2⟩
  · have h1 := g.ok.cnt k k0 k1
    have h2 := h.c9 _ (lat_mem k0 k1)
    unfold unu
    refine ⟨by omega, by omega, fun z => ?_⟩
    have := g.full k (List.mem_filter.mpr ⟨mem_nums.mpr ⟨k0, k1⟩, decide_eq_true z⟩)
    omega
theorem cop_le {p q s u : Int} (q0 : 0 < q) (u0 : 0 < u) (co : Int.gcd p q = 1) (e : p * u = s * q) : q ≤ u := by
  have h1 : q.natAbs ∣ p.natAbs * u.natAbs := by
    rw [← Int.natAbs_mul, e, Int.natAbs_mul]
    exact Nat.dvd_mul_left _ _
  have h2 : Nat.Coprime q.natAbs p.natAbs := by
    show Nat.gcd _ _ = 1
    rw [Nat.gcd_comm]; exact co
  have h3 := Nat.le_of_dvd (by omega) (h2.dvd_of_dvd_mul_left h1)
  omega
theorem LfOk.wok {c : List Int} {L : List (List Int)} {R : Int} (h : LfOk c L R) {d : List Int} (g : DlOk c L R d) : WOk c L R d (wF c L R d).1 (wF c L R d).2 := by
  have Lp : (0 : Int) < L.length := by have := List.length_pos_iff.mpr h.ne; omega
  have ne : wtsF c L R d ≠ [] := fun z => by
    have : (wtsF c L R d).length = 0 := by rw [z]; rfl
    unfold wtsF at this
    rw [List.length_append, List.length_map, nums_len] at this
    omega
  have spos : ∀ k : Int, 0 ≤ k → k < c.length → 0 < unu c d k → 0 < spr c L R k := fun k k0 k1 hu => by
    have h1 := (g.u k k0 k1).2.2
    have h2 := h.col k k0 k1
    have h3 : 0 ≤ spr c L R k := by unfold spr; omega
    rcases Int.lt_or_eq_of_le h3 with z | z
    · exact z
    · have := h1 z.symm; omega
  have mm := minL_mem ne
  have ml : ∀ x ∈ wtsF c L R d, minL (wtsF c L R d) ≤ x := fun x hx => minL_le hx
  have hm : (∃ a : Int, (0 ≤ a ∧ a < L.length) ∧ minL (wtsF c L R d) = 2520 * lat (L.getD a.toNat []) (lat d a)) ∨ ∃ k : Int, (0 ≤ k ∧ k < c.length) ∧ 0 < unu c d k ∧ minL (wtsF c L R d) = spr c L R k * (2520 / unu c d k) := by
    unfold wtsF at mm ⊢
    rcases List.mem_append.mp mm with z | z
    · obtain ⟨a, ha, e⟩ := List.mem_map.mp z
      exact .inl ⟨a, mem_nums.mp ha, e.symm⟩
    · obtain ⟨k, hk, e⟩ := List.mem_map.mp z
      obtain ⟨q1, q2⟩ := List.mem_filter.mp hk
      exact .inr ⟨k, mem_nums.mp q1, of_decide_eq_true q2, e.symm⟩
  have l1 : ∀ a : Int, 0 ≤ a → a < L.length → minL (wtsF c L R d) ≤ 2520 * lat (L.getD a.toNat []) (lat d a) := fun a a0 a1 => ml _ (List.mem_append_left _ (List.mem_map.mpr ⟨a, mem_nums.mpr ⟨a0, a1⟩, rfl⟩))
  have l2 : ∀ k : Int, 0 ≤ k → k < c.length → 0 < unu c d k → minL (wtsF c L R d) ≤ spr c L R k * (2520 / unu c d k) := fun k k0 k1 hu => ml _ (List.mem_append_right _ (List.mem_map.mpr ⟨k, List.mem_filter.mpr ⟨mem_nums.mpr ⟨k0, k1⟩, decide_eq_true hu⟩, rfl⟩))
  unfold wF
  generalize minL (wtsF c L R d) = m at hm l1 l2
  have m0 : 0 < m := by
    rcases hm with ⟨a, ha, e⟩ | ⟨k, hk, hu, e⟩
    · have := (g.pos a ha.1 ha.2).2
      omega
    · rw [e]
      exact Int.mul_pos (spos k hk.1 hk.2 hu) (div2520 hu (g.u k hk.1 hk.2).2.1).2
  have cr := fW_cross (W := 2520) (s := m) (by decide)
  have q0 := fW_pos (W := 2520) (s := m) (by decide)
  have co := fW_gcd (W := 2520) (s := m) (by decide)
  generalize (fW 2520 m).1 = p at cr co ⊢
  generalize (fW 2520 m).2 = q at cr q0 co ⊢
  have p0 : 0 < p := by
    have : 0 < m * q := Int.mul_pos m0 q0
    omega
  have key : ∀ k : Int, 0 ≤ k → k < c.length → 0 < unu c d k → m * unu c d k ≤ spr c L R k * 2520 := fun k k0 k1 hu => by
    have hd := div2520 hu (g.u k k0 k1).2.1
    have := Int.mul_le_mul_of_nonneg_right (l2 k k0 k1 hu) (show 0 ≤ unu c d k by omega)
    rw [Int.mul_assoc, hd.1] at this
    exact this
  have hit : (∃ a : Int, 0 ≤ a ∧ a < L.length ∧ p = lat (L.getD a.toNat []) (lat d a) * q) ∨ ∃ k : Int, 0 ≤ k ∧ k < c.length ∧ 0 < unu c d k ∧ p * unu c d k = spr c L R k * q := by
    rcases hm with ⟨a, ha, e⟩ | ⟨k, hk, hu, e⟩
    · refine .inl ⟨a, ha.1, ha.2, ?_⟩
      rw [e] at cr
      generalize lat (L.getD a.toNat []) (lat d a) = y at cr ⊢
      rw [Int.mul_assoc] at cr
      omega
    · refine .inr ⟨k, hk.1, hk.2, hu, ?_⟩
      have hd := div2520 hu (g.u k hk.1 hk.2).2.1
      have e2 : m * unu c d k = spr c L R k * 2520 := by rw [e, Int.mul_assoc, hd.1]
      generalize unu c d k = u at e2 ⊢
      generalize spr c L R k = s at e2 ⊢
      have : p * 2520 * u = s * 2520 * q := by
        rw [cr, Int.mul_right_comm, e2]
      have h1 : p * 2520 * u = (p * u) * 2520 := Int.mul_right_comm _ _ _
      have h2 : s * 2520 * q = (s * q) * 2520 := Int.mul_right_comm _ _ _
      omega
  refine ⟨p0, q0, ?_, fun a a0 a1 => ?_, fun k k0 k1 => ?_, hit⟩
  · rcases hit with ⟨a, a0, a1, e⟩ | ⟨k, k0, k1, hu, e⟩
    · have := cop_le (p := p) (q := q) (s := lat (L.getD a.toNat []) (lat d a)) (u := 1) q0 (by decide) co (by rw [Int.mul_one]; exact e)
      omega
    · have := cop_le q0 hu co e
      have := (g.u k k0 k1).2.1
      omega
  · have h1 := Int.mul_le_mul_of_nonneg_right (l1 a a0 a1) (show 0 ≤ q by omega)
    generalize lat (L.getD a.toNat []) (lat d a) = y at h1 ⊢
    rw [Int.mul_assoc] at h1
    omega
  · by_cases hu : 0 < unu c d k
    · have h1 := Int.mul_le_mul_of_nonneg_right (key k k0 k1 hu) (show 0 ≤ q by omega)
      generalize unu c d k = u at h1 ⊢
      generalize spr c L R k = s at h1 ⊢
      have e1 : m * u * q = p * u * 2520 := by
        rw [Int.mul_right_comm, ← cr, Int.mul_right_comm]
      have e2 : s * 2520 * q = s * q * 2520 := Int.mul_right_comm _ _ _
      omega
    · have := (g.u k k0 k1).1
      have e0 : unu c d k = 0 := by omega
      rw [e0, Int.mul_zero]
      have h2 := h.col k k0 k1
      exact Int.mul_nonneg (by unfold spr; omega) (by omega)
def rowN (p q : Int) (r : List Int) (x : Int) : List Int := (r.map fun y => y * q).set x.toNat (lat r x * q - p)
def nxtL (p q : Int) (L : List (List Int)) (d : List Int) : List (List Int) := List.zipWith (rowN p q) L d
theorem lat_mapq {r : List Int} (q x : Int) : lat (r.map fun y => y * q) x = lat r x * q := by
  unfold lat
  rw [List.getD_eq_getElem?_getD, List.getD_eq_getElem?_getD, List.getElem?_map]
  cases r[x.toNat]? with
  | none => show (0 : Int) = 0 * q; rw [Int.zero_mul]
  | some v => rfl
theorem rowN_lat {p q : Int} {r : List Int} {x y : Int} (x0 : 0 ≤ x) (y0 : 0 ≤ y) (y1 : y < r.length) : lat (rowN p q r x) y = lat r y * q - if x = y then p else 0 := by
  unfold rowN
  rw [lat_set x0 y0 (by rw [List.length_map]; exact y1), lat_mapq]
  by_cases e : x = y
  · rw [if_pos e, if_pos e, e]
  · rw [if_neg e, if_neg e]; omega
theorem sum_set : ∀ {l : List Int} {n : Nat} {v u : Int}, l[n]? = some u → (l.set n v).sum = l.sum - u + v
  | [], n, v, u, h => by cases n <;> cases h
  | y :: l, 0, v, u, h => by
    cases h
    rw [List.set_cons_zero, List.sum_cons, List.sum_cons]; omega
  | y :: l, n + 1, v, u, h => by
    rw [List.set_cons_succ, List.sum_cons, List.sum_cons, sum_set (l := l) (n := n) h]; omega
theorem rowN_sum {p q : Int} {r : List Int} {x : Int} (x0 : 0 ≤ x) (x1 : x < r.length) : (rowN p q r x).sum = r.sum * q - p := by
  unfold rowN
  have h : (r.map fun y => y * q)[x.toNat]? = some (lat r x * q) := by rw [List.getElem?_map, lat_get x0 x1]; rfl
  rw [sum_set h]
  have : (r.map fun y => y * q).sum = r.sum * q := by
    have := sum_mulR (f := fun y => y) q r
    rw [List.map_id'] at this
    exact this
  omega
theorem nxt_row {p q : Int} {L : List (List Int)} {d : List Int} (dl : d.length = L.length) {a : Int} (a0 : 0 ≤ a) (a1 : a < L.length) : (nxtL p q L d).getD a.toNat [] = rowN p q (L.getD a.toNat []) (lat d a) := by
  unfold nxtL lat
  rw [List.getD_eq_getElem?_getD, List.getElem?_zipWith, List.getD_eq_getElem?_getD, List.getD_eq_getElem?_getD, List.getElem?_eq_getElem (show a.toNat < L.length by omega), List.getElem?_eq_getElem (show a.toNat < d.length by omega)]; rfl
theorem nxt_len {p q : Int} {L : List (List Int)} {d : List Int} (dl : d.length = L.length) : (nxtL p q L d).length = L.length := by
  unfold nxtL
  rw [List.length_zipWith, dl, Nat.min_self]
theorem nxt_col {p q : Int} {n : Nat} {k : Int} (k0 : 0 ≤ k) (k1 : k < n + 1) : ∀ {L : List (List Int)} {d : List Int}, d.length = L.length → (∀ r ∈ L, r.length = n + 1) → (∀ x ∈ d, 0 ≤ x) → colS (nxtL p q L d) k = colS L k * q - p * (d.count k : Int)
  | [], [], _, _, _ => by
    show (0 : Int) = 0 * q - p * 0
    omega
  | [], _ :: _, h, _, _ => by cases h
  | _ :: _, [], h, _, _ => by cases h
  | r :: L, x :: d, h, hr, hx => by
    have ih := nxt_col (p := p) (q := q) k0 k1 (L := L) (d := d) (by simpa using h) (fun r' h' => hr r' (.tail _ h')) fun x' h' => hx x' (.tail _ h')
    have e1 : colS (nxtL p q (r :: L) (x :: d)) k = lat (rowN p q r x) k + colS (nxtL p q L d) k := rfl
    have e2 : colS (r :: L) k = lat r k + colS L k := rfl
    rw [e1, e2, ih, rowN_lat (hx x (.head _)) k0 (by rw [hr r (.head _)]; omega), List.count_cons, Int.add_mul]
    by_cases e : x = k
    · rw [if_pos e, if_pos (by simpa using e), Int.natCast_add, Int.mul_add]
      show _ = _ - (_ + p * 1)
      omega
    · rw [if_neg e, if_neg (by simpa using e), Nat.add_zero]
      omega
theorem nxt_spr {c : List Int} {L : List (List Int)} {R : Int} (h : LfOk c L R) {d : List Int} (g : DlOk c L R d) {p q : Int} {k : Int} (k0 : 0 ≤ k) (k1 : k < c.length) : spr c (nxtL p q L d) (R * q - p) k = spr c L R k * q - p * unu c d k := by
  unfold spr unu
  rw [nxt_col k0 (by omega) g.dl (fun r hr => (h.row r hr).1) fun x hx => (g.dr x hx).1, Int.mul_sub, Int.sub_mul, Int.mul_sub, Int.mul_assoc, Int.mul_comm p (lat c k)]
  omega
theorem LfOk.next {c : List Int} {L : List (List Int)} {R : Int} (h : LfOk c L R) {d : List Int} (g : DlOk c L R d) {p q : Int} (w : WOk c L R d p q) : LfOk c (nxtL p q L d) (R * q - p) := by
  have q0 := w.q0
  refine ⟨h.n6, by rw [nxt_len g.dl]; exact h.A6, fun z => ?_, h.c9, fun r hr => ?_, fun k k0 k1 => ?_⟩
  · have := nxt_len (p := p) (q := q) g.dl
    rw [z] at this
    exact h.ne (List.length_eq_zero_iff.mp this.symm)
  · obtain ⟨n, hn, e⟩ := List.getElem_of_mem hr
    rw [nxt_len g.dl] at hn
    have hr' : r = rowN p q (L.getD ((n : Nat) : Int).toNat []) (lat d (n : Nat)) := by
      rw [← nxt_row g.dl (by omega) (by omega), Int.toNat_natCast, List.getD_eq_getElem?_getD, List.getElem?_eq_getElem (by rw [nxt_len g.dl]; exact hn), ← e]; rfl
    have ro := h.rowA (a := (n : Nat)) (by omega) (by omega)
    have dp := g.pos (n : Nat) (by omega) (by omega)
    have en := w.ent (n : Nat) (by omega) (by omega)
    rw [hr']
    generalize L.getD ((n : Nat) : Int).toNat [] = r0 at ro dp en
    generalize lat d ((n : Nat) : Int) = x at dp en
    refine ⟨by unfold rowN; rw [List.length_set, List.length_map]; exact ro.1, fun y hy => ?_, ?_⟩
    · unfold rowN at hy
      rcases List.mem_or_eq_of_mem_set hy with z | z
      · obtain ⟨v, hv, rfl⟩ := List.mem_map.mp z
        exact Int.mul_nonneg (ro.2.1 v hv) (by omega)
      · omega
    · rw [rowN_sum dp.1.1 (by rw [ro.1]; omega), ro.2.2]
  · have h1 := nxt_spr h g (p := p) (q := q) k0 k1
    have h2 := w.sp k k0 k1
    unfold spr at h1
    unfold spr at h2
    omega
def cells6 : List (Int × Int) := (numsF 6).flatMap fun a => (numsF 7).map fun x => (a, x)
def meas (c : List Int) (L : List (List Int)) (R : Int) : Nat := cells6.countP (fun s => decide (0 < lat (L.getD s.1.toNat []) s.2)) + (numsF c.length).countP fun k => decide (0 < spr c L R k)
theorem mem_cells {a x : Int} (a0 : 0 ≤ a) (a1 : a < 6) (x0 : 0 ≤ x) (x1 : x < 7) : (a, x) ∈ cells6 := List.mem_flatMap.mpr ⟨a, mem_nums.mpr ⟨a0, a1⟩, List.mem_map.mpr ⟨x, mem_nums.mpr ⟨x0, x1⟩, rfl⟩⟩
theorem of_cells {s : Int × Int} (h : s ∈ cells6) : (0 ≤ s.1 ∧ s.1 < 6) ∧ 0 ≤ s.2 ∧ s.2 < 7 := by
  obtain ⟨a, ha, hs⟩ := List.mem_flatMap.mp h
  obtain ⟨x, hx, rfl⟩ := List.mem_map.mp hs
  exact ⟨mem_nums.mp ha, mem_nums.mp hx⟩
theorem meas_le {c : List Int} {L : List (List Int)} {R : Int} (h : LfOk c L R) : meas c L R ≤ 48 := by
  unfold meas
  have h1 : cells6.countP (fun s => decide (0 < lat (L.getD s.1.toNat []) s.2)) ≤ 42 := List.countP_le_length
  have h2 := List.countP_le_length (p := fun k => decide (0 < spr c L R k)) (l := numsF c.length)
  rw [nums_len] at h2
  have := h.n6
  omega
theorem meas_pos {c : List Int} {L : List (List Int)} {R : Int} (h : LfOk c L R) {d : List Int} (g : DlOk c L R d) : 0 < meas c L R := by
  have Lp := List.length_pos_iff.mpr h.ne
  have := g.pos 0 (by decide) (by omega)
  have n6 := h.n6
  unfold meas
  have : 0 < cells6.countP (fun s => decide (0 < lat (L.getD s.1.toNat []) s.2)) := List.countP_pos_iff.mpr ⟨(0, lat d 0), mem_cells (by decide) (by decide) this.1.1 (by omega), decide_eq_true this.2⟩
  omega
theorem countP_lt {α : Type} {p q : α → Bool} : ∀ {l : List α}, (∀ x ∈ l, p x = true → q x = true) → (∃ x ∈ l, p x = false ∧ q x = true) → l.countP p < l.countP q
  | [], _, ⟨_, h, _⟩ => nomatch h
  | y :: l, h, ⟨x, hx, h1, h2⟩ => by
    have m := List.countP_mono_left (p := p) (q := q) (l := l) fun z hz => h z (.tail _ hz)
    rw [List.countP_cons, List.countP_cons]
    rcases List.mem_cons.mp hx with rfl | hx
    · rw [h1, h2, if_pos rfl, if_neg (by decide)]; omega
    · have ih := countP_lt (p := p) (q := q) (l := l) (fun z hz => h z (.tail _ hz)) ⟨x, hx, h1, h2⟩
      cases hp : p y with
      | true => rw [if_pos rfl, if_pos (h y (.head _) hp)]; omega
      | false => rw [if_neg (by decide)]; split <;> omega
theorem LfOk.less {c : List Int} {L : List (List Int)} {R : Int} (h : LfOk c L R) {d : List Int} (g : DlOk c L R d) {p q : Int} (w : WOk c L R d p q) : meas c (nxtL p q L d) (R * q - p) < meas c L R := by
  have q0 := w.q0
  have p0 := w.p0
  have n6 := h.n6
  have A6 := h.A6
  have m1 : ∀ s ∈ cells6, decide (0 < lat ((nxtL p q L d).getD s.1.toNat []) s.2) = true → decide (0 < lat (L.getD s.1.toNat []) s.2) = true := fun s hs z => by
    have hs' := of_cells hs
    have z' := of_decide_eq_true z
    refine decide_eq_true ?_
    by_cases a1 : s.1 < L.length
    · rw [nxt_row g.dl hs'.1.1 a1] at z'
      have ro := h.rowA hs'.1.1 a1
      by_cases x1 : s.2 < c.length + 1
      · rw [rowN_lat (g.pos s.1 hs'.1.1 a1).1.1 hs'.2.1 (by rw [ro.1]; omega)] at z'
        have ge := h.ge s.1 s.2
        rcases Int.lt_or_eq_of_le ge with y | y
        · exact y
        · rw [← y, Int.zero_mul] at z'
          split at z' <;> omega
      · exfalso
        unfold lat at z'
        rw [List.getD_eq_getElem?_getD, List.getElem?_eq_none (by unfold rowN; rw [List.length_set, List.length_map, ro.1]; omega)] at z'
        exact absurd z' (by decide)
    · exfalso
      rw [List.getD_eq_getElem?_getD, List.getElem?_eq_none (by rw [nxt_len g.dl]; omega)] at z'
      unfold lat at z'
      simp at z'
  have m2 : ∀ k ∈ numsF c.length, decide (0 < spr c (nxtL p q L d) (R * q - p) k) = true → decide (0 < spr c L R k) = true := fun k hk z => by
    have hk' := mem_nums.mp hk
    have z' := of_decide_eq_true z
    rw [nxt_spr h g hk'.1 hk'.2] at z'
    have h2 := h.col k hk'.1 hk'.2
    have h3 : 0 ≤ spr c L R k := by unfold spr; omega
    have h4 := g.u k hk'.1 hk'.2
    refine decide_eq_true ?_
    rcases Int.lt_or_eq_of_le h3 with y | y
    · exact y
    · rw [← y, h4.2.2 y.symm, Int.zero_mul, Int.mul_zero] at z'
      omega
  unfold meas
  rcases w.hit with ⟨a, a0, a1, e⟩ | ⟨k, k0, k1, hu, e⟩
  · have dp := g.pos a a0 a1
    have ro := h.rowA a0 a1
    have := countP_lt (l := cells6) m1 ⟨(a, lat d a), mem_cells a0 (by omega) dp.1.1 (by omega), decide_eq_false (by
      show ¬ 0 < lat ((nxtL p q L d).getD a.toNat []) (lat d a)
      rw [nxt_row g.dl a0 a1, rowN_lat dp.1.1 dp.1.1 (by rw [ro.1]; omega), if_pos rfl]; omega), decide_eq_true dp.2⟩
    have := List.countP_mono_left m2
    omega
  · have := countP_lt (l := numsF c.length) m2 ⟨k, mem_nums.mpr ⟨k0, k1⟩, decide_eq_false (by rw [nxt_spr h g k0 k1]; omega), decide_eq_true (by
      have h2 := h.col k k0 k1
      have h3 : 0 ≤ spr c L R k := by unfold spr; omega
      have := (g.u k k0 k1).2.2
      rcases Int.lt_or_eq_of_le h3 with y | y
      · exact y
      · have := this y.symm; omega)⟩
    have := List.countP_mono_left m1
    omega
def mixF (c : List Int) : Nat → List (List Int) → Int → Int → List ((Int × Int) × List Int)
  | 0, _, _, _ => []
  | f + 1, L, R, B => if 0 < R then ((lT (wF c L R (dealF c L R)).1 (B * (wF c L R (dealF c L R)).2), lB (wF c L R (dealF c L R)).1 (B * (wF c L R (dealF c L R)).2)), dealF c L R) :: mixF c f (nxtL (wF c L R (dealF c L R)).1 (wF c L R (dealF c L R)).2 L (dealF c L R)) (R * (wF c L R (dealF c L R)).2 - (wF c L R (dealF c L R)).1) (B * (wF c L R (dealF c L R)).2) else []
end
end K35
namespace K35
open PySem L2 Fra
section
variable {P : Program} {w : World} {K : PySem.W.Frag} {mg : Str → Option Value} {base : Heap}
abbrev s_common_part : Stmt := top 11
theorem sc_common_part : FnScope ["one", "other", "rest"] ["one", "other"] (defScope s_common_part) := ⟨rfl, rfl, rfl, by decide +kernel, rfl, by decide +kernel, by decide +kernel⟩
def rPart (dd : List Dv) (t : Tr) : Prop := ∃ a b : Int, 0 ≤ a ∧ 0 ≤ b ∧ dd = [di a, di b] ∧ t = ti (gc a b)
theorem ok_common_part {f : Addr} {fd : FuncData} {k : Nat} (F : Fun K "common_part" "common_part" s_common_part f fd) (T : Txt mg) : FnOk P w K mg base CX0 (k + 1) f fd ["one", "other"] (spT K rPart) := by
  refine fn_ok F.d sc_common_part (fun dd t h => by obtain ⟨_, _, _, _, rfl, _⟩ := h; rfl) fun dd t h => ?_
  obtain ⟨a, b, ha, hb, rfl, rfl⟩ := h
  refine ⟨_, .inl rfl, ?_⟩
  refine rns_while_by (fun p : Int × Int => [some (ti p.1), some (ti p.2), none]) (fun p => 0 ≤ p.1 ∧ 0 ≤ p.2 ∧ gc p.1 p.2 = gc a b) (fun p => !decide (p.2 = 0)) (fun p => p.2.toNat) (a, b) rfl ⟨ha, hb, rfl⟩ (fun p hp => Et.s (et_ne (ev_nm 1 rfl) ev_int)) (fun p hp h => ?_) (fun p hp h => ?_)
  · obtain ⟨x, y⟩ := p
    obtain ⟨h1, h2, h3⟩ := hp
    have hy : y ≠ 0 := by simpa using h
    have h2' : 0 ≤ y := h2
    have l1 := Int.emod_lt_of_pos x (show 0 < y by omega)
    have l2 := Int.emod_nonneg x hy
    refine ⟨(y, x % y), ⟨h2, l2, ?_⟩, ?_, Rns.fg (rns_cons (rn_set 2 (Ev.s (ev_mod (ev_nm 0 rfl) (ev_nm 1 rfl) (by omega))) (fun _ => sc_common_part.nd)) (rns_cons (rn_set 0 (Ev.s (ev_nm 1 rfl)) (fun _ => sc_common_part.nd)) (rns_one (rn_set 1 (Ev.s (ev_nm 2 rfl)) (fun _ => sc_common_part.nd))))) ⟨[2], rfl⟩⟩
    · show gc y (x % y) = _
      rw [gc_step]; exact h3
    · show (x % y).toNat < y.toNat
      omega
  · obtain ⟨x, y⟩ := p
    obtain ⟨h1, h2, h3⟩ := hp
    have hy0 : y = 0 := by simpa using h
    have h3' : gc x y = gc a b := h3
    have h1' : 0 ≤ x := h1
    have e : gc a b = x := by rw [← h3', hy0, gc_zero]; omega
    rw [e]
    exact rns_one (rn_ret (Ev.s (ev_nm 0 rfl)))
abbrev s_is_whole : Stmt := top 10
theorem sc_is_whole : FnScope ["number"] ["number"] (defScope s_is_whole) := ⟨rfl, rfl, rfl, by decide +kernel, rfl, by decide +kernel, by decide +kernel⟩
def rIsWhole (dd : List Dv) (t : Tr) : Prop := ∃ n : Int, dd = [di n] ∧ t = tb true
theorem ok_is_whole {f : Addr} {fd : FuncData} {k : Nat} (F : Fun K "is_whole" "is_whole" s_is_whole f fd) (T : Txt mg) : FnOk P w K mg base CX0 (k + 1) f fd ["number"] (spT K rIsWhole) := by
  refine fn_ok F.d sc_is_whole (fun dd t h => by obtain ⟨n, rfl, _⟩ := h; rfl) fun dd t h => ?_
  obtain ⟨n, rfl, rfl⟩ := h
  refine ⟨_, .inl rfl, ?_⟩
  exact rns_one (rn_ret (Ev.s (Ev.to (ev_and (p := true) (q := true) (ev_isi T.b_isinstance T.b_int bt_int (ev_nm 0 rfl) (by with_unfolding_all rfl)) fun _ => (ev_one (ev_not (p := false) (ev_isi T.b_isinstance T.b_bool bt_bool (ev_nm 0 rfl) (by with_unfolding_all rfl))))) rfl)))
abbrev s_fraction : Stmt := top 12
theorem sc_fraction : FnScope ["top", "bottom", "part"] ["top", "bottom"] (defScope s_fraction) := ⟨rfl, rfl, rfl, by decide +kernel, rfl, by decide +kernel, by decide +kernel⟩
def rFrac (dd : List Dv) (t : Tr) : Prop := ∃ a b : Int, 0 < b ∧ b.natAbs < 2 ^ 8000 ∧ dd = [di a, di b] ∧ t = tF (lT a b, lB a b)
theorem ok_fraction {f f1 f2 : Addr} {fd fd1 fd2 : FuncData} {dV : Value} {k : Nat} (F : FunD K "fraction" "fraction" s_fraction dV f fd) (T : Txt mg) (K_is_whole : Kn P w K mg base CX0 (k + 1) "is_whole" f1 fd1 ["number"] (spT K rIsWhole)) (K_common_part : Kn P w K mg base CX0 (k + 1) "common_part" f2 fd2 ["one", "other"] (spT K rPart)) : FnOk P w K mg base CX0 (k + 2) f fd ["top", "bottom"] (spT K rFrac) := by
  refine fn_ok F sc_fraction (fun dd t h => by obtain ⟨_, _, _, _, rfl, _⟩ := h; rfl) fun dd t h => ?_
  obtain ⟨a, b, hb, hz, rfl, rfl⟩ := h
  refine ⟨_, .inl rfl, ?_⟩
  refine rns_cons (rn_skip (Et.s (Ew.et (ew_or (et_not (et_val (ev_call K_is_whole (Nat.le_refl _) (eva_cons (ev_nm 0 rfl) eva_nil) ⟨a, rfl, rfl⟩))) fun _ => (ew_or1 (et_not (et_val (ev_call K_is_whole (Nat.le_refl _) (eva_cons (ev_nm 1 rfl) eva_nil) ⟨b, rfl, rfl⟩))))))) rfl) ?_
  refine rns_cons (rn_skip (Et.s (et_eq (ev_nm 1 rfl) ev_int)) (decide_eq_false (by omega))) ?_
  have ha : 0 ≤ (if a < 0 then -a else a) := by split <;> omega
  have hb' : 0 ≤ (if b < 0 then -b else b) := by split <;> omega
  have eg : gc (if a < 0 then -a else a) (if b < 0 then -b else b) = gc a b := by
    rw [show (if a < 0 then -a else a) = (a.natAbs : Int) by split <;> omega, show (if b < 0 then -b else b) = (b.natAbs : Int) by split <;> omega, gc_abs]
  have gp := gc_pos (a := a) (show b ≠ 0 by omega)
  have gl := gc_le_r (a := a) hb
  refine rns_cons (rn_set 2 (EvS.to (t' := ti (gc a b)) (Ev.s (ev_call K_common_part (Nat.le_refl _) (eva_cons (ev_abs T.b_abs (ev_nm 0 rfl)) (eva_cons (ev_abs T.b_abs (ev_nm 1 rfl)) eva_nil)) ⟨_, _, ha, hb', rfl, rfl⟩)) (by rw [eg])) (fun _ => sc_fraction.nd)) ?_
  refine rns_cons (rn_skip (Et.s (et_lt (ev_nm 1 rfl) ev_int)) (decide_eq_false (by omega))) ?_
  have cd : ∀ i : Int, CDivB i (gc a b) := fun i => ⟨gp, Nat.lt_of_le_of_lt (by omega) hz⟩
  refine rns_one (rn_ret (Ev.s (ev_tupD (eva_cons (ev_div (ev_nm 0 rfl) (ev_nm 2 rfl) (cd _)) (eva_cons (ev_div (ev_nm 1 rfl) (ev_nm 2 rfl) (cd _)) eva_nil)) ?_ (by show 2 ≤ sizeLine; decide))))
  show [di (a / gc a b), di (b / gc a b)] = _
  rw [lT_pos hb, lB_pos hb]
abbrev s_plus : Stmt := top 13
theorem sc_plus : FnScope ["one", "other"] ["one", "other"] (defScope s_plus) := ⟨rfl, rfl, rfl, by decide +kernel, rfl, by decide +kernel, by decide +kernel⟩
def SmallF (p : Int × Int) : Prop := 0 < p.2 ∧ p.2.natAbs < 2 ^ 250 ∧ p.1.natAbs < 2 ^ 250
def rPlus (dd : List Dv) (t : Tr) : Prop := ∃ p q : Int × Int, SmallF p ∧ SmallF q ∧ dd = [dF p, dF q] ∧ t = tF (lT (p.1 * q.2 + q.1 * p.2) (p.2 * q.2), lB (p.1 * q.2 + q.1 * p.2) (p.2 * q.2))
theorem lt_big {a : Int} {n : Nat} (h : a.natAbs < 2 ^ n) (hn : n ≤ 8000) : a.natAbs < 2 ^ 8000 := Nat.lt_of_lt_of_le h (Nat.pow_le_pow_right (by decide) hn)
theorem mul_lt {a b : Int} {m n : Nat} (h1 : a.natAbs < 2 ^ m) (h2 : b.natAbs < 2 ^ n) : (a * b).natAbs < 2 ^ (m + n) := by
  rw [Int.natAbs_mul, Nat.pow_add]
  exact Nat.mul_lt_mul'' h1 h2
theorem ok_plus {f f1 : Addr} {fd fd1 : FuncData} {k : Nat} (F : Fun K "plus" "plus" s_plus f fd) (T : Txt mg) (K_fraction : Kn P w K mg base CX0 (k + 2) "fraction" f1 fd1 ["top", "bottom"] (spT K rFrac)) : FnOk P w K mg base CX0 (k + 3) f fd ["one", "other"] (spT K rPlus) := by
  refine fn_ok F.d sc_plus (fun dd t h => by obtain ⟨_, _, _, _, rfl, _⟩ := h; rfl) fun dd t h => ?_
  obtain ⟨p, q, ⟨p1, p2, p3⟩, ⟨q1, q2, q3⟩, rfl, rfl⟩ := h
  refine ⟨_, .inl rfl, ?_⟩
  have at0 : ∀ r : Int × Int, atI [di r.1, di r.2] 0 = some (di r.1) := fun _ => rfl
  have at1 : ∀ r : Int × Int, atI [di r.1, di r.2] 1 = some (di r.2) := fun _ => rfl
  exact rns_one (rn_ret (Ev.s (ev_call K_fraction (Nat.le_refl _) (eva_cons (ev_add (ev_mul (ev_ixT (ev_nm 0 rfl) ev_int rfl (at0 p)) (ev_ixT (ev_nm 1 rfl) ev_int rfl (at1 q)) ⟨lt_big p3 (by decide), lt_big q2 (by decide)⟩) (ev_mul (ev_ixT (ev_nm 1 rfl) ev_int rfl (at0 q)) (ev_ixT (ev_nm 0 rfl) ev_int rfl (at1 p)) ⟨lt_big q3 (by decide), lt_big p2 (by decide)⟩)) (eva_cons (ev_mul (ev_ixT (ev_nm 0 rfl) ev_int rfl (at1 p)) (ev_ixT (ev_nm 1 rfl) ev_int rfl (at1 q)) ⟨lt_big p2 (by decide), lt_big q2 (by decide)⟩) eva_nil)) ⟨_, _, Int.mul_pos p1 q1, lt_big (mul_lt p2 q2) (by decide), rfl, rfl⟩)))
theorem er_mapB {α : Type} (l : List α) (f : α → Bool) : er (.ow (l.map fun k => Tr.fz (db (f k)))) = .lst ((l.map f).map db) := by
  rw [er_ow_map, List.map_map]; rfl
theorem frac1 (c : Int) : (lT c 1, lB c 1) = (c, 1) := by
  have := l_unique (t := c) (b := 1) (p := c) (q := 1) (by decide) (by decide) (by simp) (by rfl)
  rw [← this.1, ← this.2]
theorem okD_dF (p : Int × Int) : okD (dF p) = true := rfl
theorem dpD_dF (p : Int × Int) : dpD (dF p) ≤ 1 := by
  show dpDs _ + 1 ≤ 1
  exact Nat.succ_le_succ (dpDs_le fun d hd => by
    rcases List.mem_cons.mp hd with rfl | hd
    · exact Nat.le_refl _
    · rw [List.mem_singleton.mp hd]; exact Nat.le_refl _)
theorem eqD_dF (p q : Int × Int) : eqD (dF p) (dF q) = decide (p = q) := by
  show (p.1 == q.1 && (p.2 == q.2 && true)) = _
  rw [Bool.and_true, Bool.eq_iff_iff, Bool.and_eq_true, beq_iff_eq, beq_iff_eq, decide_eq_true_iff]
  exact ⟨fun h => Prod.ext h.1 h.2, fun h => by rw [h]; exact ⟨rfl, rfl⟩⟩
def underP (p q : Int × Int) : Bool := decide (p.1 * q.2 < q.1 * p.2)
def rUnder (dd : List Dv) (t : Tr) : Prop := ∃ p q : Int × Int, SmallF p ∧ SmallF q ∧ dd = [dF p, dF q] ∧ t = tb (underP p q)
abbrev s_under : Stmt := top 14
theorem sc_under : FnScope ["one", "other"] ["one", "other"] (defScope s_under) := ⟨rfl, rfl, rfl, by decide +kernel, rfl, by decide +kernel, by decide +kernel⟩
theorem ok_under {f : Addr} {fd : FuncData} {k : Nat} (F : Fun K "under" "under" s_under f fd) (T : Txt mg) : FnOk P w K mg base CX0 (k + 1) f fd ["one", "other"] (spT K rUnder) := by
  refine fn_ok F.d sc_under (fun dd t h => by obtain ⟨_, _, _, _, rfl, _⟩ := h; rfl) fun dd t h => ?_
  obtain ⟨p, q, ⟨p1, p2, p3⟩, ⟨q1, q2, q3⟩, rfl, rfl⟩ := h
  refine ⟨_, .inl rfl, ?_⟩
  have at0 : ∀ r : Int × Int, atI [di r.1, di r.2] 0 = some (di r.1) := fun _ => rfl
  have at1 : ∀ r : Int × Int, atI [di r.1, di r.2] 1 = some (di r.2) := fun _ => rfl
  exact rns_one (rn_ret (Ev.s (ev_lt (ev_mul (ev_ixT (ev_nm 0 rfl) ev_int rfl (at0 p)) (ev_ixT (ev_nm 1 rfl) ev_int rfl (at1 q)) ⟨lt_big p3 (by decide), lt_big q2 (by decide)⟩) (ev_mul (ev_ixT (ev_nm 1 rfl) ev_int rfl (at0 q)) (ev_ixT (ev_nm 0 rfl) ev_int rfl (at1 p)) ⟨lt_big q3 (by decide), lt_big p2 (by decide)⟩))))
theorem under_fW {W s t : Int} (h : 0 < W) : underP (fW W s) (fW W t) = decide (s < t) := by
  unfold underP
  rw [decide_eq_decide]
  exact fW_lt h
abbrev dFs (W : Int) (ss : List Int) : Dv := .lst (ss.map fun s => dF (fW W s))
structure Sg (W : Int) (ss : List Int) : Prop where
  len : ss.length ≤ 20
  b : ∀ s ∈ ss, -(4 * W) ≤ s ∧ s ≤ 4 * W
theorem fW_sg {W s : Int} (w0 : 0 < W) (w1 : W < 2 ^ 70) (h : -(100 * W) ≤ s ∧ s ≤ 100 * W) : SmallF (fW W s) := by
  have a := fW_pos (s := s) w0
  have b := fW_le (s := s) w0
  have c := fW_top (s := s) w0
  exact ⟨a, by omega, by omega⟩
theorem sum_sg {W : Int} {ss : List Int} (w0 : 0 < W) (h : Sg W ss) : ∀ j, -(4 * (j * W)) ≤ (ss.take j).sum ∧ (ss.take j).sum ≤ 4 * ((j : Int) * W)
  | 0 => by rw [List.take_zero]; show -(4 * (((0 : Nat) : Int) * W)) ≤ (0 : Int) ∧ (0 : Int) ≤ 4 * (((0 : Nat) : Int) * W); omega
  | j + 1 => by
    have ih := sum_sg w0 h j
    have e : (((j + 1 : Nat) : Int)) * W = j * W + W := by rw [Int.natCast_add, Int.add_mul]; show _ + 1 * W = _; rw [Int.one_mul]
    rw [e]
    cases q : ss[j]? with
    | none =>
      have hj : ss.length ≤ j := by
        rcases Nat.lt_or_ge j ss.length with z | z
        · rw [List.getElem?_eq_getElem z] at q; cases q
        · exact z
      rw [List.take_of_length_le (by omega)]
      rw [List.take_of_length_le hj] at ih
      omega
    | some x =>
      have hx := h.b x (List.mem_of_getElem? q)
      rw [take_get q, List.sum_append, List.sum_singleton]
      omega
theorem sum_sg' {W : Int} {ss : List Int} (w0 : 0 < W) (h : Sg W ss) : -(100 * W) ≤ ss.sum ∧ ss.sum ≤ 100 * W := by
  have := sum_sg w0 h ss.length
  rw [List.take_length] at this
  have h20 : (ss.length : Int) * W ≤ 20 * W := Int.mul_le_mul_of_nonneg_right (by have := h.len; omega) (by omega)
  omega
abbrev s_sum_of : Stmt := top 15
theorem sc_sum_of : FnScope ["some", "total", "one"] ["some"] (defScope s_sum_of) := ⟨rfl, rfl, rfl, by decide +kernel, rfl, by decide +kernel, by decide +kernel⟩
def rSumOf (dd : List Dv) (t : Tr) : Prop := ∃ (W : Int) (ss : List Int), 0 < W ∧ W < 2 ^ 70 ∧ Sg W ss ∧ dd = [dFs W ss] ∧ t = tF (fW W ss.sum)
theorem ok_sum_of {f f1 f2 : Addr} {fd fd1 fd2 : FuncData} {k : Nat} {tk : Tok} (F : Fun K "sum_of" "sum_of" s_sum_of f fd) (T : Txt mg) (K_fraction : Kn P w K mg base CX0 (k + 2) "fraction" f1 fd1 ["top", "bottom"] (spT K rFrac)) (B1 : Binds K fd1 ["top", "bottom"] [.int 1 tk]) (K_plus : Kn P w K mg base CX0 (k + 3) "plus" f2 fd2 ["one", "other"] (spT K rPlus)) : FnOk P w K mg base CX0 (k + 4) f fd ["some"] (spT K rSumOf) := by
  refine fn_ok F.d sc_sum_of (fun dd t h => by obtain ⟨_, _, _, _, _, rfl, _⟩ := h; rfl) fun dd t h => ?_
  obtain ⟨W, ss, w0, w1, sg, rfl, rfl⟩ := h
  refine ⟨_, .inl rfl, ?_⟩
  refine rns_cons (rn_set 1 (EvS.to (t' := tF (fW W (ss.take 0).sum)) (Ev.s (ev_callD K_fraction B1 (by show k + 2 ≤ k + 3; omega) (eva_cons ev_int eva_nil) ⟨0, 1, by decide, by decide, rfl, rfl⟩)) (by rw [frac1, List.take_zero]; show tF (0, 1) = tF (fW W 0); rw [fW_zero w0])) (fun _ => sc_sum_of.nd)) ?_
  refine rns_cons (rn_for (EvI.s (evi_list (ev_nm 0 rfl) rfl)) (evg_nm 2 (fun _ => sc_sum_of.nd)) (fun j => [some (.fz (dFs W ss)), some (tF (fW W (ss.take j).sum)), none]) rfl (fun _ => rfl) (fun j d hd => ?_)) ?_
  · obtain ⟨x, hx, rfl⟩ := map_get hd
    have hb := sg.b x (List.mem_of_getElem? hx)
    have ht := sum_sg w0 sg j
    have hl := sg.len
    have hj : j < ss.length := by
      rcases Nat.lt_or_ge j ss.length with z | z
      · exact z
      · rw [List.getElem?_eq_none z] at hx; cases hx
    have h100 : (j : Int) * W ≤ 20 * W := Int.mul_le_mul_of_nonneg_right (by omega) (by omega)
    refine ⟨_, [some (.fz (dFs W ss)), some (tF (fW W (ss.take (j + 1)).sum)), some (tF (fW W x))], rfl, ?_, [2], rfl⟩
    rw [take_get hx, List.sum_append, List.sum_singleton]
    generalize (ss.take j).sum = S at ht
    exact rns_one (rn_set 1 (EvS.to (t' := tF (fW W (S + x))) (Ev.s (ev_call K_plus (Nat.le_refl _) (eva_cons (ev_nm 1 rfl) (eva_cons (ev_nm 2 rfl) eva_nil)) ⟨fW W S, fW W x, fW_sg w0 w1 (by omega), fW_sg w0 w1 (by omega), rfl, rfl⟩)) (by rw [fW_plus w0])) (fun _ => sc_sum_of.nd))
  · rw [List.length_map, List.take_length]
    exact rns_one (rn_ret (Ev.s (ev_nm 1 rfl)))
abbrev dSh (W : Int) (rows : List (List Int)) : Dv := .lst (rows.map (dFs W))
structure ShOk (W : Int) (rows : List (List Int)) : Prop where
  w0 : 0 < W
  w1 : W < 2 ^ 70
  len : rows.length ≤ 20
  row : ∀ r ∈ rows, Sg W r
def colF (rows : List (List Int)) (x : Int) : List Int := rows.map fun r => r.getD x.toNat 0
abbrev s_dealt_of : Stmt := top 22
theorem sc_dealt_of : FnScope ["shares", "one"] ["shares", "one"] (defScope s_dealt_of) := ⟨rfl, rfl, rfl, by decide +kernel, rfl, by decide +kernel, by decide +kernel⟩
def rDealt (dd : List Dv) (t : Tr) : Prop := ∃ (W : Int) (rows : List (List Int)) (x : Int), ShOk W rows ∧ 0 ≤ x ∧ (∀ r ∈ rows, x < r.length) ∧ dd = [dSh W rows, di x] ∧ t = tF (fW W (colF rows x).sum)
theorem col_sg {W : Int} {rows : List (List Int)} (h : ShOk W rows) {x : Int} (x0 : 0 ≤ x) (x1 : ∀ r ∈ rows, x < r.length) : Sg W (colF rows x) := by
  refine ⟨by unfold colF; rw [List.length_map]; exact h.len, fun s hs => ?_⟩
  obtain ⟨r, hr, rfl⟩ := List.mem_map.mp hs
  have := x1 r hr
  refine (h.row r hr).b _ ?_
  rw [List.getD_eq_getElem?_getD, List.getElem?_eq_getElem (show x.toNat < r.length by omega)]
  exact List.getElem_mem _
theorem at_row {W : Int} {r : List Int} {x : Int} (x0 : 0 ≤ x) (x1 : x < r.length) : atI (r.map fun s => dF (fW W s)) x = some (dF (fW W (r.getD x.toNat 0))) := by
  obtain ⟨m, rfl⟩ : ∃ m : Nat, x = (m : Int) := ⟨x.toNat, by omega⟩
  refine atI_nat ?_
  rw [List.getElem?_map, List.getD_eq_getElem?_getD, Int.toNat_natCast, List.getElem?_eq_getElem (by omega)]; rfl
theorem ok_dealt_of {f f1 : Addr} {fd fd1 : FuncData} {k : Nat} (F : Fun K "dealt_of" "dealt_of" s_dealt_of f fd) (T : Txt mg) (K_sum_of : Kn P w K mg base CX0 (k + 4) "sum_of" f1 fd1 ["some"] (spT K rSumOf)) : FnOk P w K mg base CX0 (k + 5) f fd ["shares", "one"] (spT K rDealt) := by
  refine fn_ok F.d sc_dealt_of (fun dd t h => by obtain ⟨_, _, _, _, _, _, rfl, _⟩ := h; rfl) fun dd t h => ?_
  obtain ⟨W, rows, x, ok, x0, x1, rfl, rfl⟩ := h
  refine ⟨_, .inl rfl, ?_⟩
  have big : 1000 < sizeLine := by decide
  have hl := ok.len
  have e : er (.ow (rows.map fun r => tF (fW W (r.getD x.toNat 0)))) = dFs W (colF rows x) := by
    rw [er_ow_map]
    unfold colF
    show Dv.lst _ = Dv.lst (List.map _ (List.map _ _))
    rw [List.map_map]; rfl
  exact rns_one (rn_ret (Ev.s (ev_call K_sum_of (Nat.le_refl _) (eva_cons (Ev.as (ev_lcm (own := ["row"]) (fr := [1]) rows (dFs W) (fun r => tF (fW W (r.getD x.toNat 0))) (fun i => lcs ⟨rfl, rfl, by decide +kernel, by decide +kernel, by decide +kernel, by decide +kernel⟩) (evi_list (ev_nm 0 rfl) rfl) (evg_nm 0 (fun _ => by show List.Nodup (["row", "one"] : List Str); decide)) (by decide) (by omega) (fun r hr => ⟨_, rfl, by exact ev_ix (ev_nm 0 rfl) (ev_nm 1 rfl) rfl (at_row x0 (x1 r hr))⟩) (fun dd => by cases dd <;> rfl)) e) eva_nil) ⟨W, colF rows x, ok.w0, ok.w1, col_sg ok x0 x1, rfl, rfl⟩)))
abbrev s_is_row : Stmt := top 23
theorem sc_is_row : FnScope ["row", "many"] ["row", "many"] (defScope s_is_row) := ⟨rfl, rfl, rfl, by decide +kernel, rfl, by decide +kernel, by decide +kernel⟩
def rowB (W : Int) (n : Nat) (r : List Int) : Bool := decide (r.length = n + 1) && (r.all (fun s => decide (0 ≤ s)) && decide (r.sum = W))
def rIsRow (dd : List Dv) (t : Tr) : Prop := ∃ (W : Int) (r : List Int) (n : Nat), 0 < W ∧ W < 2 ^ 70 ∧ Sg W r ∧ dd = [dFs W r, di n] ∧ t = tb (rowB W n r)
theorem ok_is_row {f f1 f2 f3 : Addr} {fd fd1 fd2 fd3 : FuncData} {k : Nat} {tk : Tok} (F : Fun K "is_row" "is_row" s_is_row f fd) (T : Txt mg) (K_fraction : Kn P w K mg base CX0 (k + 2) "fraction" f1 fd1 ["top", "bottom"] (spT K rFrac)) (B1 : Binds K fd1 ["top", "bottom"] [.int 1 tk]) (K_under : Kn P w K mg base CX0 (k + 1) "under" f2 fd2 ["one", "other"] (spT K rUnder)) (K_sum_of : Kn P w K mg base CX0 (k + 4) "sum_of" f3 fd3 ["some"] (spT K rSumOf)) : FnOk P w K mg base CX0 (k + 5) f fd ["row", "many"] (spT K rIsRow) := by
  refine fn_ok F.d sc_is_row (fun dd t h => by obtain ⟨_, _, _, _, _, _, rfl, _⟩ := h; rfl) fun dd t h => ?_
  obtain ⟨W, r, n, w0, w1, sg, rfl, rfl⟩ := h
  refine ⟨_, .inl rfl, ?_⟩
  have big : 1000 < sizeLine := by decide
  have hl := sg.len
  have el : (((r.map fun s => dF (fW W s)).length : Nat) : Int) = r.length := by rw [List.length_map]
  by_cases h1 : r.length = n + 1
  · have er1 : rowB W n r = (r.all (fun s => decide (0 ≤ s)) && decide (r.sum = W)) := by unfold rowB; rw [decide_eq_true h1]; rfl
    rw [er1]
    refine rns_cons (rn_skip (Et.s (et_ne (ev_len T.b_len (ev_nm 0 rfl) (.inl rfl)) (ev_add (ev_nm 1 rfl) ev_int))) (by rw [el, h1]; simp)) ?_
    have ea : (r.map fun s => decide (s < 0)).any id = !r.all fun s => decide (0 ≤ s) := by
      rw [List.any_map]
      clear er1 el h1 hl sg
      induction r with
      | nil => rfl
      | cons a r ih =>
        rw [List.any_cons, List.all_cons, ih, Bool.not_and]
        congr 1
        show decide (a < 0) = !decide (0 ≤ a)
        by_cases z : a < 0
        · rw [decide_eq_true z, decide_eq_false (by omega)]; rfl
        · rw [decide_eq_false z, decide_eq_true (by omega)]; rfl
    refine rns_ifr (Et.s (et_val (ev_any (bs := r.map fun s => decide (s < 0)) T.b_any (ev_lcm (own := ["share"]) (fr := []) r (fun s => dF (fW W s)) (fun s => tb (decide (s < 0))) (fun i => lcs ⟨rfl, rfl, by decide +kernel, by decide +kernel, by decide +kernel, by decide +kernel⟩) (evi_list (ev_nm 0 rfl) rfl) (evg_nm 0 (fun _ => by show List.Nodup (["share"] : List Str); decide)) (by decide) (by omega) (fun s hs => ⟨_, rfl, by
        have hb := sg.b s hs
        exact Ev.to (ev_call K_under (by show k + 1 ≤ k + 4; omega) (eva_cons (ev_nm 0 rfl) (eva_cons (Ev.to (t' := tF (fW W 0)) (ev_callD K_fraction B1 (by show k + 2 ≤ k + 4; omega) (eva_cons ev_int eva_nil) ⟨0, 1, by decide, by decide, rfl, rfl⟩) (by rw [frac1, fW_zero w0])) eva_nil)) ⟨fW W s, fW W 0, fW_sg w0 w1 (by omega), fW_sg w0 w1 (by omega), rfl, rfl⟩) (by rw [under_fW w0])⟩) (fun dd => by cases dd <;> rfl)) (er_mapB _ _)))) (fun h => ?_) (fun h => ?_)
    · rw [ea] at h
      have h' : (r.all fun s => decide (0 ≤ s)) = false := by simpa using h
      rw [h']
      exact rns_one (rn_ret (Ev.s ev_bl))
    · rw [ea] at h
      have h' : (r.all fun s => decide (0 ≤ s)) = true := by simpa using h
      rw [h']
      refine rns_one (rn_ret (EvS.to (Ev.s (ev_eqS (ev_call K_sum_of (Nat.le_refl _) (eva_cons (ev_nm 0 rfl) eva_nil) ⟨W, r, w0, w1, sg, rfl, rfl⟩) (ev_callD K_fraction B1 (by show k + 2 ≤ k + 4; omega) (eva_cons ev_int eva_nil) ⟨1, 1, by decide, by decide, rfl, rfl⟩) (.inr ⟨_, _, rfl, rfl⟩) (Nat.le_trans (dpD_dF _) (by decide)))) ?_))
      rw [frac1]
      show tb (eqD (dF (fW W r.sum)) (dF (1, 1))) = _
      rw [eqD_dF, ← fW_self w0]
      congr 1
      show _ = decide (r.sum = W)
      exact decide_eq_decide.mpr ⟨fun z => fW_inj w0 z, fun z => by rw [z]⟩
  · have er1 : rowB W n r = false := by unfold rowB; rw [decide_eq_false h1]; rfl
    rw [er1]
    exact rns_ret (rn_ifT (Et.s (et_ne (ev_len T.b_len (ev_nm 0 rfl) (.inl rfl)) (ev_add (ev_nm 1 rfl) ev_int))) (by
      rw [el]
      show (!decide _) = true
      rw [decide_eq_false (by omega)]; rfl) (rns_one (rn_ret (Ev.s ev_bl))))
abbrev s_are_shares : Stmt := top 24
theorem sc_are_shares : FnScope ["counts", "shares"] ["counts", "shares"] (defScope s_are_shares) := ⟨rfl, rfl, rfl, by decide +kernel, rfl, by decide +kernel, by decide +kernel⟩
def areB (W : Int) (c : List Int) (rows : List (List Int)) : Bool := rows.all (rowB W c.length) && (numsF c.length).all fun x => decide ((colF rows x).sum ≤ c.getD x.toNat 0 * W)
def rAre (dd : List Dv) (t : Tr) : Prop := ∃ (W : Int) (c : List Int) (rows : List (List Int)), ShOk W rows ∧ c.length ≤ 6 ∧ (∀ x ∈ c, 0 ≤ x ∧ x ≤ 9) ∧ dd = [dis c, dSh W rows] ∧ t = tb (areB W c rows)
theorem enum_nums (c : List Int) : enuD (c.map di) = (numsF c.length).map fun x => Dv.tup [di x, di (c.getD x.toNat 0)] := by
  unfold enuD
  refine List.ext_getElem? fun n => ?_
  rw [List.getElem?_zipWith, List.length_map, List.getElem?_map, List.getElem?_map]
  by_cases hn : n < c.length
  · have e1 : (numsF c.length)[n]? = some (0 + (n : Int)) := by
      unfold numsF
      rw [List.getElem?_map, List.getElem?_range hn]; rfl
    rw [e1, List.getElem?_range hn, List.getElem?_eq_getElem hn]
    show some (Dv.tup [di (n : Int), di c[n]]) = some (Dv.tup [di (0 + (n : Int)), di (c.getD (0 + (n : Int)).toNat 0)])
    rw [Int.zero_add, Int.toNat_natCast, List.getD_eq_getElem?_getD, List.getElem?_eq_getElem hn]; rfl
  · rw [List.getElem?_eq_none (l := List.range c.length) (by rw [List.length_range]; omega), List.getElem?_eq_none (l := numsF c.length) (by rw [nums_len]; omega)]; rfl
theorem ok_are_shares {f f1 f2 f3 f4 : Addr} {fd fd1 fd2 fd3 fd4 : FuncData} {k : Nat} {tk : Tok} (F : Fun K "are_shares" "are_shares" s_are_shares f fd) (T : Txt mg) (K_is_row : Kn P w K mg base CX0 (k + 5) "is_row" f1 fd1 ["row", "many"] (spT K rIsRow)) (K_under : Kn P w K mg base CX0 (k + 1) "under" f2 fd2 ["one", "other"] (spT K rUnder)) (K_fraction : Kn P w K mg base CX0 (k + 2) "fraction" f3 fd3 ["top", "bottom"] (spT K rFrac)) (B1 : Binds K fd3 ["top", "bottom"] [.int 1 tk]) (K_dealt_of : Kn P w K mg base CX0 (k + 5) "dealt_of" f4 fd4 ["shares", "one"] (spT K rDealt)) : FnOk P w K mg base CX0 (k + 6) f fd ["counts", "shares"] (spT K rAre) := by
  refine fn_ok F.d sc_are_shares (fun dd t h => by obtain ⟨_, _, _, _, _, _, rfl, _⟩ := h; rfl) fun dd t h => ?_
  obtain ⟨W, c, rows, ok, c6, cb, rfl, rfl⟩ := h
  refine ⟨_, .inl rfl, ?_⟩
  have big : 1000 < sizeLine := by decide
  have hl := ok.len
  have w0 := ok.w0
  have w1 := ok.w1
  have ea : (rows.map (rowB W c.length)).all id = rows.all (rowB W c.length) := by rw [List.all_map]; rfl
  refine rns_ifr (Et.s (et_not (et_val (ev_all (bs := rows.map (rowB W c.length)) T.b_all (ev_lcm (own := ["row"]) (fr := [0]) rows (dFs W) (fun r => tb (rowB W c.length r)) (fun i => lcs ⟨rfl, rfl, by decide +kernel, by decide +kernel, by decide +kernel, by decide +kernel⟩) (evi_list (ev_nm 1 rfl) rfl) (evg_nm 0 (fun _ => by show List.Nodup (["row", "counts"] : List Str); decide)) (by decide) (by omega) (fun r hr => ⟨_, rfl, by
      exact ev_call K_is_row (Nat.le_refl _) (eva_cons (ev_nm 0 rfl) (eva_cons (Ev.to (t' := ti (c.length : Nat)) (ev_len T.b_len (ev_nm 1 rfl) (.inl rfl)) (by rw [List.length_map])) eva_nil)) ⟨W, r, c.length, w0, w1, ok.row r hr, rfl, rfl⟩⟩) (fun dd => by cases dd <;> rfl)) (er_mapB _ _))))) (fun h => ?_) (fun h => ?_)
  · rw [ea] at h
    have h' : rows.all (rowB W c.length) = false := by simpa using h
    have : areB W c rows = false := by unfold areB; rw [h']; rfl
    rw [this]
    exact rns_one (rn_ret (Ev.s ev_bl))
  · rw [ea] at h
    have h' : rows.all (rowB W c.length) = true := by simpa using h
    have x1 : ∀ x : Int, 0 ≤ x → x < c.length → ∀ r ∈ rows, x < r.length := fun x _ hx r hr => by
      have := List.all_eq_true.mp h' r hr
      unfold rowB at this
      rw [Bool.and_eq_true] at this
      have := of_decide_eq_true this.1
      omega
    have e2 : areB W c rows = !((numsF c.length).map fun x => decide (c.getD x.toNat 0 * W < (colF rows x).sum)).any id := by
      unfold areB
      rw [h', Bool.true_and, List.any_map]
      induction numsF c.length with
      | nil => rfl
      | cons a l ih =>
        rw [List.any_cons, List.all_cons, ih, Bool.not_or]
        congr 1
        show decide _ = !decide _
        by_cases z : c.getD a.toNat 0 * W < (colF rows a).sum
        · rw [decide_eq_true z, decide_eq_false (by omega)]; rfl
        · rw [decide_eq_false z, decide_eq_true (by omega)]; rfl
    rw [e2]
    refine rns_one (rn_ret (Ev.s (ev_not (ev_any (bs := (numsF c.length).map fun x => decide (c.getD x.toNat 0 * W < (colF rows x).sum)) T.b_any (ev_lcm (own := ["thing", "count"]) (fr := [1]) (numsF c.length) (fun x => .tup [di x, di (c.getD x.toNat 0)]) (fun x => tb (decide (c.getD x.toNat 0 * W < (colF rows x).sum))) (fun i => lcs ⟨rfl, rfl, by decide +kernel, by decide +kernel, by decide +kernel, by decide +kernel⟩) (EvI.to (evi_enum T.b_enumerate (ev_nm 0 rfl) rfl) (enum_nums c)) (evg_t2 0 1 (fun _ => by show List.Nodup (["thing", "count", "shares"] : List Str); decide)) (by decide) (by rw [nums_len]; omega) (fun x hx => ⟨_, rfl, by
        obtain ⟨x0, x2⟩ := mem_nums.mp hx
        have hc : 0 ≤ c.getD x.toNat 0 ∧ c.getD x.toNat 0 ≤ 9 := cb _ (by rw [List.getD_eq_getElem?_getD, List.getElem?_eq_getElem (show x.toNat < c.length by omega)]; exact List.getElem_mem _)
        have hs := sum_sg' w0 (col_sg ok x0 (x1 x x0 x2))
        have h9 : c.getD x.toNat 0 * W ≤ 9 * W := Int.mul_le_mul_of_nonneg_right hc.2 (by omega)
        have h0 : 0 ≤ c.getD x.toNat 0 * W := Int.mul_nonneg hc.1 (by omega)
        have ef : tF (lT (c.getD x.toNat 0) 1, lB (c.getD x.toNat 0) 1) = tF (fW W (c.getD x.toNat 0 * W)) := by
          rw [← fW_same w0 (show (1 : Int) ≠ 0 by decide) (show c.getD x.toNat 0 * W = c.getD x.toNat 0 * W * 1 by rw [Int.mul_one])]
        exact Ev.to (ev_call K_under (by show k + 1 ≤ k + 5; omega) (eva_cons (Ev.to (ev_callD K_fraction B1 (by show k + 2 ≤ k + 5; omega) (eva_cons (ev_nm 1 rfl) eva_nil) ⟨c.getD x.toNat 0, 1, by decide, by decide, rfl, rfl⟩) ef) (eva_cons (ev_call K_dealt_of (Nat.le_refl _) (eva_cons (ev_nm 2 rfl) (eva_cons (ev_nm 0 rfl) eva_nil)) ⟨W, rows, x, ok, x0, x1 x x0 x2, rfl, rfl⟩) eva_nil)) ⟨_, _, fW_sg w0 w1 (by omega), fW_sg w0 w1 hs, rfl, rfl⟩) (by rw [under_fW w0])⟩) (fun dd => by rcases dd with _ | ⟨_, _ | ⟨_, _⟩⟩ <;> rfl)) (er_mapB _ _)))))
abbrev s_common_bottom : Stmt := top 16
theorem sc_common_bottom : FnScope ["some", "least", "one"] ["some"] (defScope s_common_bottom) := ⟨rfl, rfl, rfl, by decide +kernel, rfl, by decide +kernel, by decide +kernel⟩
def Bots (bs : List Int) : Prop := ∃ M : Int, 0 < M ∧ M < 2 ^ 4000 ∧ ∀ b ∈ bs, 0 < b ∧ b ∣ M
theorem Bots.lc {bs : List Int} (h : Bots bs) (j : Nat) : 0 < lcF 1 (bs.take j) ∧ (lcF 1 (bs.take j)).natAbs < 2 ^ 4000 := by
  obtain ⟨M, h1, h2, h3⟩ := h
  have hp : ∀ b ∈ bs.take j, 0 < b := fun b hb => (h3 b (List.mem_of_mem_take hb)).1
  have p := lcF_pos (m := 1) (by decide) hp
  have d := lcF_least (m := 1) (n := M) (by decide) hp ⟨M, (Int.one_mul M).symm⟩ fun b hb => (h3 b (List.mem_of_mem_take hb)).2
  have := Int.le_of_dvd h1 d
  refine ⟨p, ?_⟩
  omega
def frD (p : Int × Int) : Dv := .tup [di p.1, di p.2]
def rBottom (dd : List Dv) (t : Tr) : Prop := ∃ fs : List (Int × Int), Bots (fs.map (·.2)) ∧ dd = [.lst (fs.map frD)] ∧ t = ti (lcF 1 (fs.map (·.2)))
theorem ok_common_bottom {f f1 : Addr} {fd fd1 : FuncData} {k : Nat} (F : Fun K "common_bottom" "common_bottom" s_common_bottom f fd) (T : Txt mg) (K_common_part : Kn P w K mg base CX0 (k + 1) "common_part" f1 fd1 ["one", "other"] (spT K rPart)) : FnOk P w K mg base CX0 (k + 2) f fd ["some"] (spT K rBottom) := by
  refine fn_ok F.d sc_common_bottom (fun dd t h => by obtain ⟨_, _, rfl, _⟩ := h; rfl) fun dd t h => ?_
  obtain ⟨fs, hb, rfl, rfl⟩ := h
  refine ⟨_, .inl rfl, ?_⟩
  refine rns_cons (rn_set 1 (Ev.s ev_int) (fun _ => sc_common_bottom.nd)) ?_
  refine rns_cons (rn_for (EvI.s (evi_list (ev_nm 0 rfl) rfl)) (evg_nm 2 (fun _ => sc_common_bottom.nd)) (fun k => [some (.fz (.lst (fs.map frD))), some (ti (lcF 1 ((fs.map (·.2)).take k))), none]) rfl (fun _ => rfl) (fun j d hd => ?_)) ?_
  · obtain ⟨⟨p, b⟩, hf, rfl⟩ := map_get hd
    obtain ⟨l1, l2⟩ := hb.lc j
    have hbj : (fs.map (·.2))[j]? = some b := by rw [List.getElem?_map, hf]; rfl
    have hbm : 0 < b ∧ b.natAbs < 2 ^ 4000 := by
      obtain ⟨M, h1, h2, h3⟩ := hb
      obtain ⟨q1, q2⟩ := h3 b (List.mem_of_getElem? hbj)
      have := Int.le_of_dvd h1 q2
      exact ⟨q1, by omega⟩
    have g0 := gc_pos (a := lcF 1 ((fs.map (·.2)).take j)) (b := b) (by omega)
    have g1 := gc_le_r (a := lcF 1 ((fs.map (·.2)).take j)) hbm.1
    refine ⟨_, _, rfl, rns_one (rn_set 1 (Ev.s (ev_div (ev_mul (ev_nm 1 rfl) (ev_ixT (d := di b) (ev_nm 2 rfl) ev_int rfl rfl) ⟨big_lt l2, big_lt hbm.2⟩) (ev_call K_common_part (Nat.le_refl _) (eva_cons (ev_nm 1 rfl) (eva_cons (ev_ixT (d := di b) (ev_nm 2 rfl) ev_int rfl rfl) eva_nil)) ⟨_, b, by omega, by omega, rfl, rfl⟩) ⟨g0, big_lt (by omega)⟩)) (fun _ => sc_common_bottom.nd)), [2], ?_⟩
    show [_, some (ti _), _] = [_, some (ti _), _]
    rw [take_get hbj, lcF_append]
    rfl
  · rw [List.length_map, List.take_of_length_le (by rw [List.length_map]; exact Nat.le_refl _)]
    exact rns_one (rn_ret (Ev.s (ev_nm 1 rfl)))
abbrev s_parts_of : Stmt := top 19
theorem sc_parts_of : FnScope ["one", "bottom"] ["one", "bottom"] (defScope s_parts_of) := ⟨rfl, rfl, rfl, by decide +kernel, rfl, by decide +kernel, by decide +kernel⟩
def rParts (dd : List Dv) (t : Tr) : Prop := ∃ (p b m : Int), 0 < b ∧ b.natAbs < 2 ^ 8000 ∧ p.natAbs < 2 ^ 8000 ∧ (m / b).natAbs < 2 ^ 8000 ∧ dd = [frD (p, b), di m] ∧ t = ti (p * (m / b))
theorem ok_parts_of {f : Addr} {fd : FuncData} {k : Nat} (F : Fun K "parts_of" "parts_of" s_parts_of f fd) (T : Txt mg) : FnOk P w K mg base CX0 (k + 1) f fd ["one", "bottom"] (spT K rParts) := by
  refine fn_ok F.d sc_parts_of (fun dd t h => by obtain ⟨_, _, _, _, _, _, _, rfl, _⟩ := h; rfl) fun dd t h => ?_
  obtain ⟨p, b, m, h1, h2, h3, h4, rfl, rfl⟩ := h
  refine ⟨_, .inl rfl, ?_⟩
  exact rns_one (rn_ret (Ev.s (ev_mul (ev_ixT (d := di p) (ev_nm 0 rfl) ev_int rfl rfl) (ev_div (ev_nm 1 rfl) (ev_ixT (d := di b) (ev_nm 0 rfl) ev_int rfl rfl) ⟨h1, h2⟩) ⟨h3, h4⟩)))
theorem fW_bg {W s : Int} (w0 : 0 < W) (w1 : W < 2 ^ 70) (h0 : 0 ≤ s) (h1 : s < 2 ^ 245) : SmallF (fW W s) := by
  have a := fW_pos (s := s) w0
  have b := fW_le (s := s) w0
  have c := fW_top (s := s) w0
  exact ⟨a, by omega, by omega⟩
abbrev s_least_of : Stmt := top 17
theorem sc_least_of : FnScope ["some", "least", "one"] ["some"] (defScope s_least_of) := ⟨rfl, rfl, rfl, by decide +kernel, rfl, by decide +kernel, by decide +kernel⟩
def rLeastOf (dd : List Dv) (t : Tr) : Prop := ∃ (W : Int) (ss : List Int), 0 < W ∧ W < 2 ^ 70 ∧ ss ≠ [] ∧ (∀ s ∈ ss, 0 ≤ s ∧ s < 2 ^ 245) ∧ dd = [dFs W ss] ∧ t = tF (fW W (minL ss))
theorem ok_least_of {f f1 : Addr} {fd fd1 : FuncData} {k : Nat} (F : Fun K "least_of" "least_of" s_least_of f fd) (T : Txt mg) (K_under : Kn P w K mg base CX0 (k + 1) "under" f1 fd1 ["one", "other"] (spT K rUnder)) : FnOk P w K mg base CX0 (k + 2) f fd ["some"] (spT K rLeastOf) := by
  refine fn_ok F.d sc_least_of (fun dd t h => by obtain ⟨_, _, _, _, _, _, rfl, _⟩ := h; rfl) fun dd t h => ?_
  obtain ⟨W, ss, w0, w1, ne, sb, rfl, rfl⟩ := h
  refine ⟨_, .inl rfl, ?_⟩
  have h0 : atI (ss.map fun s => dF (fW W s)) 0 = some (dF (fW W (ss.headD 0))) := by
    cases ss with
    | nil => exact absurd rfl ne
    | cons a r => exact atI_nat (j := 0) rfl
  refine rns_cons (rn_set 1 (Ev.s (ev_ix (ev_nm 0 rfl) ev_int rfl h0)) (fun _ => sc_least_of.nd)) ?_
  have hm : ∀ j, (ss.take j).foldl min (ss.headD 0) ∈ ss := fun j => by
    have hh : ss.headD 0 ∈ ss := by
      cases ss with
      | nil => exact absurd rfl ne
      | cons a r => exact .head _
    rcases (foldl_min_le (ss.take j) (ss.headD 0)).2.2 with z | z
    · rw [z]; exact hh
    · exact List.mem_of_mem_take z
  refine rns_cons (rn_for (EvI.s (evi_list (ev_nm 0 rfl) rfl)) (evg_nm 2 (fun _ => sc_least_of.nd)) (fun j => [some (.fz (dFs W ss)), some (tF (fW W ((ss.take j).foldl min (ss.headD 0)))), none]) rfl (fun _ => rfl) (fun j d hd => ?_)) ?_
  · obtain ⟨x, hx, rfl⟩ := map_get hd
    have hb := sb x (List.mem_of_getElem? hx)
    have hl := sb _ (hm j)
    refine ⟨_, [some (.fz (dFs W ss)), some (tF (fW W ((ss.take (j + 1)).foldl min (ss.headD 0)))), some (tF (fW W x))], rfl, ?_, [2], rfl⟩
    rw [take_get hx, List.foldl_append]
    show Rns _ _ _ (.nx [_, some (tF (fW W (min ((ss.take j).foldl min (ss.headD 0)) x))), _])
    generalize (ss.take j).foldl min (ss.headD 0) = m at hl
    rcases Int.lt_or_le x m with z | z
    · rw [show min m x = x by omega]
      exact rns_one (rn_ifT (Et.s (et_val (Ev.to (ev_call K_under (by show k + 1 ≤ k + 1; omega) (eva_cons (ev_nm 2 rfl) (eva_cons (ev_nm 1 rfl) eva_nil)) ⟨fW W x, fW W m, fW_bg w0 w1 hb.1 hb.2, fW_bg w0 w1 hl.1 hl.2, rfl, rfl⟩) (t' := tb true) (by rw [under_fW w0, decide_eq_true z])))) rfl (rns_one (rn_set 1 (Ev.s (ev_nm 2 rfl)) (fun _ => sc_least_of.nd))))
    · rw [show min m x = m by omega]
      exact rns_one (rn_skip (Et.s (et_val (Ev.to (ev_call K_under (by show k + 1 ≤ k + 1; omega) (eva_cons (ev_nm 2 rfl) (eva_cons (ev_nm 1 rfl) eva_nil)) ⟨fW W x, fW W m, fW_bg w0 w1 hb.1 hb.2, fW_bg w0 w1 hl.1 hl.2, rfl, rfl⟩) (t' := tb false) (by rw [under_fW w0, decide_eq_false (by omega)])))) rfl)
  · rw [List.length_map, List.take_length]
    exact rns_one (rn_ret (Ev.s (ev_nm 1 rfl)))
end
end K35
namespace K35
open PySem L2 Fra
section
variable {P : Program} {w : World} {K : PySem.W.Frag} {mg : Str → Option Value} {base : Heap}
theorem row_at2 {L : List (List Int)} {a : Int} (a0 : 0 ≤ a) (a1 : a < L.length) : atI (L.map dis) a = some (dis (L.getD a.toNat [])) := by
  obtain ⟨j, rfl⟩ : ∃ j : Nat, a = (j : Int) := ⟨a.toNat, by omega⟩
  refine atI_nat ?_
  rw [List.getElem?_map, Int.toNat_natCast, List.getD_eq_getElem?_getD, List.getElem?_eq_getElem (by omega)]; rfl
theorem nums_get {n : Nat} {k : Int} (k0 : 0 ≤ k) (k1 : k < n) : (numsF n)[k.toNat]? = some k := by
  unfold numsF
  rw [List.getElem?_map, List.getElem?_range (show k.toNat < n by omega)]
  show some (0 + ((k.toNat : Nat) : Int)) = some k
  congr 1; omega
theorem enum_f (n : Nat) (f : Int → Int) : enuD (((numsF n).map f).map di) = (numsF n).map fun k => Dv.tup [di k, di (f k)] := by
  rw [enum_nums, List.length_map, nums_len]
  refine List.map_congr_left fun k hk => ?_
  have hk' := mem_nums.mp hk
  rw [List.getD_eq_getElem?_getD, List.getElem?_map, nums_get hk'.1 hk'.2]; rfl
theorem enum_l (c : List Int) : enuD (c.map di) = (numsF c.length).map fun x => Dv.tup [di x, di (lat c x)] := enum_nums c
theorem mem_le_sum : ∀ {r : List Int} {x : Int}, (∀ y ∈ r, 0 ≤ y) → x ∈ r → x ≤ r.sum
  | y :: r, x, h, hx => by
    have hs : 0 ≤ r.sum := by
      have := sum_nonneg (f := fun z => z) (l := r) fun z hz => h z (.tail _ hz)
      rw [List.map_id'] at this
      exact this
    rw [List.sum_cons]
    rcases List.mem_cons.mp hx with rfl | hx
    · omega
    · have := mem_le_sum (r := r) (fun z hz => h z (.tail _ hz)) hx
      have := h y (.head _)
      omega
theorem lat_le_sum {r : List Int} (h : ∀ y ∈ r, 0 ≤ y) (x : Int) : lat r x ≤ r.sum := by
  unfold lat
  rw [List.getD_eq_getElem?_getD]
  cases e : r[x.toNat]? with
  | none =>
    have := sum_nonneg (f := fun z => z) (l := r) h
    rw [List.map_id'] at this
    exact this
  | some y => exact mem_le_sum h (List.mem_of_getElem? e)
theorem bigI {a : Int} (h0 : 0 ≤ a) (h : a < 2 ^ 250) : a.natAbs < 2 ^ 8000 := lt_big (n := 250) (by omega) (by decide)
abbrev s_spare_parts : Stmt := top 26
theorem sc_spare_parts : FnScope ["counts", "left", "whole"] ["counts", "left"] (defScope s_spare_parts) := ⟨rfl, rfl, rfl, by decide +kernel, rfl, by decide +kernel, by decide +kernel⟩
def rSpare (dd : List Dv) (t : Tr) : Prop := ∃ c L R, LfOk c L R ∧ R < 2 ^ 225 ∧ dd = [dis c, .lst (L.map dis)] ∧ t = tInts ((numsF c.length).map (spr c L R))
theorem LfOk.R0 {c : List Int} {L : List (List Int)} {R : Int} (h : LfOk c L R) : 0 ≤ R := by
  have Lp := List.length_pos_iff.mpr h.ne
  have ro := h.rowA (a := 0) (by decide) (by omega)
  rw [← ro.2.2]
  have := sum_nonneg (f := fun z => z) (l := L.getD (0 : Int).toNat []) ro.2.1
  rw [List.map_id'] at this
  exact this
theorem ok_spare_parts {f : Addr} {fd : FuncData} {k : Nat} (F : Fun K "spare_parts" "spare_parts" s_spare_parts f fd) (T : Txt mg) : FnOk P w K mg base CX0 (k + 1) f fd ["counts", "left"] (spT K rSpare) := by
  refine fn_ok F.d sc_spare_parts (fun dd t h => by obtain ⟨_, _, _, _, _, rfl, _⟩ := h; rfl) fun dd t h => ?_
  obtain ⟨c, L, R, lf, Rb, rfl, rfl⟩ := h
  refine ⟨_, .inl rfl, ?_⟩
  have big : 1000 < sizeLine := by decide
  have R0 := lf.R0
  have n6 := lf.n6
  have A6 := lf.A6
  have Lp := List.length_pos_iff.mpr lf.ne
  have ro := lf.rowA (a := 0) (by decide) (by omega)
  refine rns_cons (rn_set 2 (EvS.to (t' := ti R) (Ev.s (ev_sum T.b_sum (ev_ix (d := dis (L.getD (0 : Int).toNat [])) (ev_nm 1 rfl) ev_int rfl (row_at2 (by decide) (by omega))) rfl)) (by rw [ro.2.2])) (fun _ => sc_spare_parts.nd)) ?_
  refine rns_one (rn_ret (Ev.s (Ev.to (ev_lcm (own := ["thing", "count"]) (fr := [2, 1]) (numsF c.length) (fun k => Dv.tup [di k, di (lat c k)]) (fun k => ti (spr c L R k)) (fun i => lcsC ⟨rfl, rfl, by decide +kernel, by decide +kernel, by decide +kernel, by decide +kernel⟩) (EvI.to (evi_enum T.b_enumerate (ev_nm 0 rfl) rfl) (enum_l c)) (evg_t2 0 1 (fun _ => by show List.Nodup (["thing", "count", "whole", "left"] : List Str); decide)) (by decide) (by rw [nums_len]; omega) (fun x hx => ⟨_, rfl, by
    have hx' := mem_nums.mp hx
    have c9 := lf.c9 _ (lat_mem hx'.1 hx'.2)
    exact ev_sub (ev_mul (ev_nm 1 rfl) (ev_nm 2 rfl) ⟨bigI c9.1 (by omega), bigI R0 (by omega)⟩) (ev_sum (ns := L.map fun r => lat r x) T.b_sum (ev_lcm (own := ["row"]) (fr := [0]) L dis (fun r => ti (lat r x)) (fun i => lcs2' ["thing", "count", "whole", "left"] ⟨rfl, by decide +kernel, by decide +kernel, by decide +kernel, by decide +kernel⟩ fun y hy => closF_has _ _ y hy) (evi_list (ev_nm 3 rfl) rfl) (evg_nm 0 (fun _ => by show List.Nodup (["row", "thing"] : List Str); decide)) (by decide) (by omega) (fun r hr => ⟨_, rfl, by exact ev_ix (d := di (lat r x)) (ev_nm 0 rfl) (ev_nm 1 rfl) rfl (lat_at di hx'.1 (by rw [(lf.row r hr).1]; omega))⟩) (fun dd => by cases dd <;> rfl)) (er_map _ _))⟩) (fun dd => by rcases dd with _ | ⟨_, _ | ⟨_, _⟩⟩ <;> rfl)) (by show Tr.ow _ = Tr.ow _; rw [List.map_map]; rfl))))
abbrev s_next_deal : Stmt := top 27
theorem sc_next_deal : FnScope ["counts", "left", "must", "may"] ["counts", "left"] (defScope s_next_deal) := ⟨rfl, rfl, rfl, by decide +kernel, rfl, by decide +kernel, by decide +kernel⟩
def rNext (dd : List Dv) (t : Tr) : Prop := ∃ c L R, LfOk c L R ∧ 0 < R ∧ R < 2 ^ 225 ∧ dd = [dis c, .lst (L.map dis)] ∧ t = tInts (dealF c L R)
theorem ok_next_deal {f f1 f2 : Addr} {fd fd1 fd2 : FuncData} {k : Nat} (F : Fun K "next_deal" "next_deal" s_next_deal f fd) (T : Txt mg) (K_spare_parts : Kn P w K mg base CX0 (k + 1) "spare_parts" f1 fd1 ["counts", "left"] (spT K rSpare)) (K_deal_of : Kn P w K mg base CX0 (k + 10) "deal_of" f2 fd2 ["counts", "may", "must"] (spT K rDealOf)) : FnOk P w K mg base CX0 (k + 11) f fd ["counts", "left"] (spT K rNext) := by
  refine fn_ok F.d sc_next_deal (fun dd t h => by obtain ⟨_, _, _, _, _, _, rfl, _⟩ := h; rfl) fun dd t h => ?_
  obtain ⟨c, L, R, lf, R0, Rb, rfl, rfl⟩ := h
  refine ⟨_, .inl rfl, ?_⟩
  have big : 1000 < sizeLine := by decide
  have n6 := lf.n6
  have A6 := lf.A6
  have r1 : k + 1 ≤ k + 10 := by omega
  refine rns_cons (rn_lcG 2 (ElcS (Elc.as (d := dis (mustOf c L R)) (elcf (own := ["thing", "parts"]) (fr := []) (numsF c.length) (fun k => Dv.tup [di k, di (spr c L R k)]) (fun k => decide (spr c L R k = 0)) ti (EvI.to (evi_enum T.b_enumerate (ev_call K_spare_parts r1 (eva_cons (ev_nm 0 rfl) (eva_cons (ev_nm 1 rfl) eva_nil)) ⟨c, L, R, lf, Rb, rfl, rfl⟩) (er_tInts _)) (enum_f _ _)) (evg_t2 0 1 (fun _ => by show List.Nodup (["thing", "parts"] : List Str); decide)) (by decide) (by rw [nums_len]; omega) (fun x hx => ⟨_, rfl, by exact el_one (et_eq (ev_nm 1 rfl) ev_int), fun _ => by exact ev_nm 0 rfl⟩) (fun dd => by rcases dd with _ | ⟨_, _ | ⟨_, _⟩⟩ <;> rfl)) (by rw [er_map _ (fun x => x), List.map_id']; rfl))) (fun i => lcs ⟨rfl, rfl, by decide +kernel, by decide +kernel, by decide +kernel, by decide +kernel⟩) (fun _ => sc_next_deal.nd)) ?_
  refine rns_cons (rn_lcG 3 (ElcS (Elc.as (d := .lst ((mayOf L).map dis)) (elcm (own := ["row"]) (fr := []) L dis (fun r => tInts ((numsF r.length).filter fun x => decide (0 < lat r x))) (evi_list (ev_nm 1 rfl) rfl) (evg_nm 0 (fun _ => by show List.Nodup (["row"] : List Str); decide)) (by decide) (by omega) (fun r hr => ⟨_, rfl, by
    have hl := (lf.row r hr).1
    exact ev_lcf (own := ["one", "parts"]) (fr := []) (numsF r.length) (fun x => Dv.tup [di x, di (lat r x)]) (fun x => decide (0 < lat r x)) ti (fun i => lcs2' ["row"] ⟨rfl, by decide +kernel, by decide +kernel, by decide +kernel, by decide +kernel⟩ fun y hy => closF_has _ _ y hy) (EvI.to (evi_enum T.b_enumerate (ev_nm 0 rfl) rfl) (enum_l r)) (evg_t2 0 1 (fun _ => by show List.Nodup (["one", "parts"] : List Str); decide)) (by decide) (by rw [nums_len]; omega) (fun x hx => ⟨_, rfl, by exact el_one (et_gt (ev_nm 1 rfl) ev_int), fun _ => by exact ev_nm 0 rfl⟩) (fun dd => by rcases dd with _ | ⟨_, _ | ⟨_, _⟩⟩ <;> rfl)⟩) (fun dd => by cases dd <;> rfl)) (by rw [er_ow_map]; unfold mayOf; rw [List.map_map]; congr 1; exact List.map_congr_left fun r _ => er_tInts _))) (fun i => lcs ⟨rfl, rfl, by decide +kernel, by decide +kernel, by decide +kernel, by decide +kernel⟩) (fun _ => sc_next_deal.nd)) ?_
  exact rns_one (rn_ret (Ev.s (ev_call K_deal_of (Nat.le_refl _) (eva_cons (ev_nm 0 rfl) (eva_cons (ev_nm 3 rfl) (eva_cons (ev_nm 2 rfl) eva_nil))) ⟨c, mayOf L, mustOf c L R, lf.lk, rfl, (lf.deal R0).2.symm⟩)))
theorem fW_int (x : Int) : (lT x 1, lB x 1) = fW 2520 (2520 * x) := fW_same (by decide) (by decide) (by rw [Int.mul_one, Int.mul_comm])
theorem fW_div {s u : Int} (u0 : 0 < u) (u9 : u ≤ 9) : (lT s u, lB s u) = fW 2520 (s * (2520 / u)) := fW_same (by decide) (by omega) (by rw [Int.mul_assoc, (div2520 u0 u9).1])
abbrev s_most_weight : Stmt := top 28
theorem sc_most_weight : FnScope ["counts", "left", "deal", "weights", "thing", "parts", "unused"] ["counts", "left", "deal"] (defScope s_most_weight) := ⟨rfl, rfl, rfl, by decide +kernel, rfl, by decide +kernel, by decide +kernel⟩
def rMost (dd : List Dv) (t : Tr) : Prop := ∃ c L R d, LfOk c L R ∧ DlOk c L R d ∧ R < 2 ^ 225 ∧ dd = [dis c, .lst (L.map dis), dis d] ∧ t = tF (wF c L R d)
theorem LfOk.spr_le {c : List Int} {L : List (List Int)} {R : Int} (h : LfOk c L R) {k : Int} (k0 : 0 ≤ k) (k1 : k < c.length) : 0 ≤ spr c L R k ∧ spr c L R k ≤ 9 * R := by
  have h1 := h.col k k0 k1
  have h2 := h.c9 _ (lat_mem k0 k1)
  have R0 := h.R0
  have : 0 ≤ colS L k := by
    rw [← colS_nums]
    exact sum_nonneg fun a _ => h.ge a k
  have : lat c k * R ≤ 9 * R := Int.mul_le_mul_of_nonneg_right h2.2 R0
  unfold spr
  omega
theorem wts_ok {c : List Int} {L : List (List Int)} {R : Int} (h : LfOk c L R) {d : List Int} (g : DlOk c L R d) (Rb : R < 2 ^ 225) : ∀ s ∈ wtsF c L R d, 0 ≤ s ∧ s < 2 ^ 245 := fun s hs => by
  unfold wtsF at hs
  rcases List.mem_append.mp hs with z | z
  · obtain ⟨a, ha, rfl⟩ := List.mem_map.mp z
    have ha' := mem_nums.mp ha
    have ro := h.rowA ha'.1 ha'.2
    have h1 := lat_le_sum ro.2.1 (lat d a)
    have h2 := h.ge a (lat d a)
    rw [ro.2.2] at h1
    omega
  · obtain ⟨k, hk, rfl⟩ := List.mem_map.mp z
    obtain ⟨q1, q2⟩ := List.mem_filter.mp hk
    have hk' := mem_nums.mp q1
    have hu := of_decide_eq_true q2
    have hd := div2520 hu (g.u k hk'.1 hk'.2).2.1
    have hs' := h.spr_le hk'.1 hk'.2
    have hle : 2520 / unu c d k ≤ 2520 := by
      have : 2520 / unu c d k * 1 ≤ 2520 / unu c d k * unu c d k := Int.mul_le_mul_of_nonneg_left (by omega) (by omega)
      omega
    have hm : spr c L R k * (2520 / unu c d k) ≤ spr c L R k * 2520 := Int.mul_le_mul_of_nonneg_left hle hs'.1
    exact ⟨Int.mul_nonneg hs'.1 (by omega), by omega⟩
theorem ok_most_weight {f f1 f2 f3 : Addr} {fd fd1 fd2 fd3 : FuncData} {k : Nat} {tk : Tok} (F : Fun K "most_weight" "most_weight" s_most_weight f fd) (T : Txt mg) (K_fraction : Kn P w K mg base CX0 (k + 2) "fraction" f1 fd1 ["top", "bottom"] (spT K rFrac)) (B1 : Binds K fd1 ["top", "bottom"] [.int 1 tk]) (K_spare_parts : Kn P w K mg base CX0 (k + 1) "spare_parts" f2 fd2 ["counts", "left"] (spT K rSpare)) (K_least_of : Kn P w K mg base CX0 (k + 2) "least_of" f3 fd3 ["some"] (spT K rLeastOf)) : FnOk P w K mg base CX0 (k + 3) f fd ["counts", "left", "deal"] (spT K rMost) := by
  refine fn_ok F.d sc_most_weight (fun dd t h => by obtain ⟨_, _, _, _, _, _, _, rfl, _⟩ := h; rfl) fun dd t h => ?_
  obtain ⟨c, L, R, d, lf, g, Rb, rfl, rfl⟩ := h
  refine ⟨_, .inl rfl, ?_⟩
  have big : 1000 < sizeLine := by decide
  have n6 := lf.n6
  have A6 := lf.A6
  have dl := g.dl
  refine rns_cons (rn_lcG 3 (ElcS (Elc.to (t' := .ow ((((numsF L.length).map fun a => 2520 * lat (L.getD a.toNat []) (lat d a)) ++ ((numsF 0).filter fun k => decide (0 < unu c d k)).map fun k => spr c L R k * (2520 / unu c d k)).map fun s => tF (fW 2520 s))) (elcm (own := ["asker", "one"]) (fr := [1]) (numsF L.length) (fun a => Dv.tup [di a, di (lat d a)]) (fun a => tF (fW 2520 (2520 * lat (L.getD a.toNat []) (lat d a)))) (EvI.to (evi_enum T.b_enumerate (ev_nm 2 rfl) rfl) (by rw [enum_l, dl])) (evg_t2 0 1 (fun _ => by show List.Nodup (["asker", "one", "left"] : List Str); decide)) (by decide) (by rw [nums_len]; omega) (fun a ha => ⟨_, rfl, by
    have ha' := mem_nums.mp ha
    have ro := lf.rowA ha'.1 ha'.2
    have dp := (g.pos a ha'.1 ha'.2).1
    exact Ev.to (ev_callD K_fraction B1 (Nat.le_refl _) (eva_cons (ev_ix (d := di (lat (L.getD a.toNat []) (lat d a))) (ev_ix (d := dis (L.getD a.toNat [])) (ev_nm 2 rfl) (ev_nm 0 rfl) rfl (row_at2 ha'.1 ha'.2)) (ev_nm 1 rfl) rfl (lat_at di dp.1 (by rw [ro.1]; omega))) eva_nil) ⟨_, 1, by decide, lt_big (n := 1) (by decide) (by decide), rfl, rfl⟩) (by rw [fW_int])⟩) (fun dd => by rcases dd with _ | ⟨_, _ | ⟨_, _⟩⟩ <;> rfl)) (by show Tr.ow _ = Tr.ow (List.map _ (_ ++ [])); rw [List.append_nil, List.map_map]; rfl))) (fun i => lcs ⟨rfl, rfl, by decide +kernel, by decide +kernel, by decide +kernel, by decide +kernel⟩) (fun _ => sc_most_weight.nd)) ?_
  refine rns_cons (rn_for (its := (numsF c.length).map fun k => Dv.tup [di k, di (spr c L R k)]) (EvI.s (EvI.to (evi_enum T.b_enumerate (ev_call K_spare_parts (by show k + 1 ≤ k + 2; omega) (eva_cons (ev_nm 0 rfl) (eva_cons (ev_nm 1 rfl) eva_nil)) ⟨c, L, R, lf, Rb, rfl, rfl⟩) (er_tInts _)) (enum_f _ _))) (evg_t2 4 5 (fun _ => sc_most_weight.nd)) (fun k => [some (.fz (dis c)), some (.fz (.lst (L.map dis))), some (.fz (dis d)), some (.ow ((((numsF L.length).map fun a => 2520 * lat (L.getD a.toNat []) (lat d a)) ++ ((numsF k).filter fun k => decide (0 < unu c d k)).map fun k => spr c L R k * (2520 / unu c d k)).map fun s => tF (fW 2520 s))), none, none, none]) rfl (fun _ => rfl) (fun j e hd => ?_)) ?_
  · obtain ⟨y, hy, rfl⟩ := map_get hd
    have hj : j < c.length := by
      have := (List.getElem?_eq_some_iff.mp hy).1
      rw [nums_len] at this
      exact this
    have ey : y = 0 + (j : Int) := by
      unfold numsF at hy
      rw [List.getElem?_map, List.getElem?_range hj] at hy
      exact (Option.some.inj hy).symm
    have y0 : 0 ≤ y := by omega
    have y1 : y < c.length := by omega
    have gu := g.u y y0 y1
    rw [show numsF (j + 1) = numsF j ++ [y] by rw [ey]; unfold numsF; rw [List.range_succ, List.map_append]; rfl, List.filter_append, List.filter_cons, List.filter_nil, List.map_append (f := fun k => spr c L R k * (2520 / unu c d k))]
    have len0 : (((numsF j).filter fun k => decide (0 < unu c d k)).map fun k => spr c L R k * (2520 / unu c d k)).length ≤ 6 := by
      rw [List.length_map]
      exact Nat.le_trans (List.length_filter_le _ _) (by rw [nums_len]; omega)
    generalize ((numsF j).filter fun k => decide (0 < unu c d k)).map (fun k => spr c L R k * (2520 / unu c d k)) = l0 at len0
    have len1 : ((numsF L.length).map fun a => 2520 * lat (L.getD a.toNat []) (lat d a)).length ≤ 6 := by rw [List.length_map, nums_len]; exact A6
    generalize (numsF L.length).map (fun a => 2520 * lat (L.getD a.toNat []) (lat d a)) = l1 at len1
    refine ⟨_, [some (.fz (dis c)), some (.fz (.lst (L.map dis))), some (.fz (dis d)), some (.ow ((l1 ++ (l0 ++ (if decide (0 < unu c d y) = true then [y] else []).map fun k => spr c L R k * (2520 / unu c d k))).map fun s => tF (fW 2520 s))), none, none, none], rfl, ?_, ⟨[], rfl⟩⟩
    refine rns_cons (rn_set 6 (EvS.to (t' := ti (unu c d y)) (Ev.s (ev_sub (ev_ix (d := di (lat c y)) (ev_nm 0 rfl) (ev_nm 4 rfl) rfl (lat_at di y0 y1)) (ev_count (ev_nm 2 rfl) rfl (ev_nm 4 rfl)))) rfl) (fun _ => sc_most_weight.nd)) ?_
    refine rns_cons (ρ1 := [some (.fz (dis c)), some (.fz (.lst (L.map dis))), some (.fz (dis d)), some (.ow ((l1 ++ (l0 ++ (if decide (0 < unu c d y) = true then [y] else []).map fun k => spr c L R k * (2520 / unu c d k))).map fun s => tF (fW 2520 s))), some (ti y), some (ti (spr c L R y)), some (ti (unu c d y))]) (rn_if (Et.s (et_gt (ev_nm 6 rfl) ev_int)) (fun h => ?_) (fun h => ?_)) (rns_nilF ⟨[4, 5, 6], rfl⟩)
    · have hu := of_decide_eq_true h
      refine Rns.to (rns_one (rn_append 3 rfl (EvS.to (t' := tF (fW 2520 (spr c L R y * (2520 / unu c d y)))) (Ev.s (ev_call K_fraction (Nat.le_refl _) (eva_cons (ev_nm 5 rfl) (eva_cons (ev_nm 6 rfl) eva_nil)) ⟨spr c L R y, unu c d y, hu, bigI (by omega) (by omega), rfl, rfl⟩)) (by rw [fW_div hu gu.2.1])) (by rw [List.length_map, List.length_append]; omega))) ?_
      show Out.nx [_, _, _, some (Tr.ow (_ ++ [_])), _, _, _] = Out.nx [_, _, _, some (Tr.ow _), _, _, _]
      rw [if_pos h, ← List.append_assoc, List.map_append (l₁ := l1 ++ l0)]; rfl
    · refine Rns.to rns_nil ?_
      rw [if_neg (by rw [h]; decide), List.map_nil, List.append_nil]
      rfl
  rw [show ((numsF c.length).map fun k => Dv.tup [di k, di (spr c L R k)]).length = c.length by rw [List.length_map, nums_len]]
  refine rns_freezeTo (d := dFs 2520 (wtsF c L R d)) 3 rfl (by rw [er_ow_map]; rfl) ?_
  have ne : wtsF c L R d ≠ [] := fun z => by
    have : (wtsF c L R d).length = 0 := by rw [z]; rfl
    unfold wtsF at this
    rw [List.length_append, List.length_map, nums_len] at this
    have Lp := List.length_pos_iff.mpr lf.ne
    omega
  exact rns_one (rn_ret (Ev.s (ev_call K_least_of (Nat.le_refl _) (eva_cons (ev_nm 3 rfl) eva_nil) ⟨2520, wtsF c L R d, by decide, by decide, ne, wts_ok lf g Rb, rfl, rfl⟩)))
def aftK (p q : Int) (L : List (List Int)) (d : List Int) : Nat → List (List Int)
  | 0 => L.map fun r => r.map fun y => y * q
  | k + 1 => (aftK p q L d k).set k (rowN p q (L.getD k []) (lat d k))
theorem aft_get (p q : Int) (L : List (List Int)) (d : List Int) : ∀ k, k ≤ L.length → (aftK p q L d k).length = L.length ∧ ∀ i, i < L.length → (aftK p q L d k)[i]? = some (if i < k then rowN p q (L.getD i []) (lat d (i : Nat)) else (L.getD i []).map fun y => y * q)
  | 0, _ => ⟨List.length_map _, fun i hi => by
    show (L.map _)[i]? = _
    rw [List.getElem?_map, List.getD_eq_getElem?_getD, List.getElem?_eq_getElem hi, if_neg (by omega)]; rfl⟩
  | k + 1, hk => by
    obtain ⟨h1, h2⟩ := aft_get p q L d k (by omega)
    refine ⟨by show (List.set _ _ _).length = _; rw [List.length_set]; exact h1, fun i hi => ?_⟩
    show ((aftK p q L d k).set k _)[i]? = _
    rw [List.getElem?_set]
    by_cases e : k = i
    · subst e
      rw [if_pos rfl, if_pos (by omega), if_pos (by omega)]
    · rw [if_neg e, h2 i hi]
      by_cases l : i < k
      · rw [if_pos l, if_pos (by omega)]
      · rw [if_neg l, if_neg (by omega)]
theorem aft_all {p q : Int} {L : List (List Int)} {d : List Int} (dl : d.length = L.length) : aftK p q L d L.length = nxtL p q L d := by
  obtain ⟨h1, h2⟩ := aft_get p q L d L.length (Nat.le_refl _)
  refine List.ext_getElem? fun i => ?_
  by_cases hi : i < L.length
  · rw [h2 i hi, if_pos hi]
    have := nxt_row (p := p) (q := q) dl (a := (i : Nat)) (by omega) (by omega)
    rw [Int.toNat_natCast, List.getD_eq_getElem?_getD, List.getElem?_eq_getElem (by rw [nxt_len dl]; exact hi)] at this
    rw [List.getElem?_eq_getElem (by rw [nxt_len dl]; exact hi)]
    exact congrArg some this.symm
  · rw [List.getElem?_eq_none (by omega), List.getElem?_eq_none (by rw [nxt_len dl]; omega)]
abbrev s_left_after : Stmt := top 29
theorem sc_left_after : FnScope ["left", "deal", "weight", "finer", "asker", "one"] ["left", "deal", "weight"] (defScope s_left_after) := ⟨rfl, rfl, rfl, by decide +kernel, rfl, by decide +kernel, by decide +kernel⟩
def rAfter (dd : List Dv) (t : Tr) : Prop := ∃ c L R d p q, LfOk c L R ∧ DlOk c L R d ∧ R < 2 ^ 225 ∧ 0 < q ∧ q ≤ 9 ∧ dd = [.lst (L.map dis), dis d, dF (p, q)] ∧ t = tRows (nxtL p q L d)
theorem ok_left_after {f : Addr} {fd : FuncData} {k : Nat} (F : Fun K "left_after" "left_after" s_left_after f fd) (T : Txt mg) : FnOk P w K mg base CX0 (k + 1) f fd ["left", "deal", "weight"] (spT K rAfter) := by
  refine fn_ok F.d sc_left_after (fun dd t h => by obtain ⟨_, _, _, _, _, _, _, _, _, _, _, rfl, _⟩ := h; rfl) fun dd t h => ?_
  obtain ⟨c, L, R, d, p, q, lf, g, Rb, q0, q9, rfl, rfl⟩ := h
  refine ⟨_, .inl rfl, ?_⟩
  have big : 1000 < sizeLine := by decide
  have n6 := lf.n6
  have A6 := lf.A6
  have dl := g.dl
  refine rns_cons (rn_lcG 3 (ElcS (Elc.to (t' := tRows (aftK p q L d 0)) (elcm (own := ["row"]) (fr := [2]) L dis (fun r => tInts (r.map fun y => y * q)) (evi_list (ev_nm 0 rfl) rfl) (evg_nm 0 (fun _ => by show List.Nodup (["row", "weight"] : List Str); decide)) (by decide) (by omega) (fun r hr => ⟨_, rfl, by
    have ro := lf.row r hr
    exact Ev.to (ev_lcm (own := ["parts"]) (fr := [1]) r di (fun y => ti (y * q)) (fun i => lcs2' ["row", "weight"] ⟨rfl, by decide +kernel, by decide +kernel, by decide +kernel, by decide +kernel⟩ fun y hy => closF_has _ _ y hy) (evi_list (ev_nm 0 rfl) rfl) (evg_nm 0 (fun _ => by show List.Nodup (["parts", "weight"] : List Str); decide)) (by decide) (by omega) (fun y hy => ⟨_, rfl, by
      have h1 := ro.2.1 y hy
      have h2 := mem_le_sum ro.2.1 hy
      rw [ro.2.2] at h2
      exact ev_mul (ev_nm 0 rfl) (ev_ixT (d := di q) (ev_nm 1 rfl) ev_int rfl rfl) ⟨bigI h1 (by omega), bigI (by omega) (by omega)⟩⟩) (fun dd => by cases dd <;> rfl)) (by show Tr.ow _ = Tr.ow _; rw [List.map_map]; rfl)⟩) (fun dd => by cases dd <;> rfl)) (by show Tr.ow _ = Tr.ow _; unfold aftK; rw [List.map_map]; rfl))) (fun i => lcs ⟨rfl, rfl, by decide +kernel, by decide +kernel, by decide +kernel, by decide +kernel⟩) (fun _ => sc_left_after.nd)) ?_
  refine rns_cons (rn_for (its := (numsF L.length).map fun a => Dv.tup [di a, di (lat d a)]) (EvI.s (EvI.to (evi_enum T.b_enumerate (ev_nm 1 rfl) rfl) (by rw [enum_l, dl]))) (evg_t2 4 5 (fun _ => sc_left_after.nd)) (fun k => [some (.fz (.lst (L.map dis))), some (.fz (dis d)), some (.fz (dF (p, q))), some (tRows (aftK p q L d k)), none, none]) rfl (fun _ => rfl) (fun j e hd => ?_)) ?_
  · obtain ⟨y, hy, rfl⟩ := map_get hd
    have hj : j < L.length := by
      have := (List.getElem?_eq_some_iff.mp hy).1
      rw [nums_len] at this
      exact this
    have ey : y = (j : Int) := by
      unfold numsF at hy
      rw [List.getElem?_map, List.getElem?_range hj] at hy
      have : 0 + (j : Int) = y := Option.some.inj hy
      omega
    subst ey
    obtain ⟨al, ag⟩ := aft_get p q L d j (by omega)
    have gj := ag j hj
    rw [if_neg (by omega)] at gj
    have ro := lf.rowA (a := (j : Int)) (by omega) (by omega)
    rw [Int.toNat_natCast] at ro
    have dp := g.pos (j : Int) (by omega) (by omega)
    rw [Int.toNat_natCast] at dp
    rw [show aftK p q L d (j + 1) = (aftK p q L d j).set j (rowN p q (L.getD j []) (lat d (j : Nat))) from rfl]
    generalize aftK p q L d j = M at al gj
    generalize L.getD j [] = r at gj ro dp
    generalize lat d (j : Nat) = x at dp
    have ixj : ixN (M.map tInts).length (j : Int) = some j := by
      unfold ixN
      rw [List.length_map, if_pos (by omega), if_pos (by omega)]; rfl
    have hat : atI (M.map dis) (j : Int) = some (dis (r.map fun y => y * q)) := atI_nat (by rw [List.getElem?_map, gj]; rfl)
    refine ⟨_, _, rfl, rns_one (rn_lstset 3 4 5 (ts := M.map tInts) (us := (r.map fun y => y * q).map fun n => .fz (di n)) (n1 := (j : Int)) (n := x) (i := j) (m := x.toNat) (t := ti (lat r x * q - p)) rfl rfl rfl ixj (by rw [List.getElem?_map, gj]; rfl) ?_ (Ev.pk (ev_sub (ev_ix (d := di (lat r x * q)) (ev_ix (d := dis (r.map fun y => y * q)) (ev_nm 3 rfl) (ev_nm 4 rfl) (er_tRows M) hat) (ev_nm 5 rfl) rfl ?_) (ev_ixT (d := di p) (ev_nm 2 rfl) ev_int rfl rfl)) True.intro) (hps := fun i' => pg_sub (pe_ix ix_list (pv 3) (pv 4) (fun _ _ => rfl)) (pv 5) set_list)), [4, 5], ?_⟩
    · unfold ixN
      rw [List.length_map, List.length_map, if_pos dp.1.1, if_pos (by rw [ro.1]; omega)]
    · rw [← lat_mapq]
      exact lat_at di dp.1.1 (by rw [List.length_map, ro.1]; omega)
    · show [_, _, _, some (Tr.ow (List.set _ _ _)), _, _] = [_, _, _, some (Tr.ow _), _, _]
      unfold rowN
      rw [List.map_set]
      show _ = [_, _, _, some (Tr.ow (List.set _ _ (Tr.ow (List.map _ (List.set _ _ _))))), _, _]
      rw [List.map_set]
  rw [show ((numsF L.length).map fun a => Dv.tup [di a, di (lat d a)]).length = L.length by rw [List.length_map, nums_len], aft_all dl]
  exact rns_one (rn_retO 3 rfl)
end
end K35
namespace K35
open PySem L2 Fra
section
variable {P : Program} {w : World} {K : PySem.W.Frag} {mg : Str → Option Value} {base : Heap}
theorem fW_dvd {W s : Int} (w0 : 0 < W) : (fW W s).2 ∣ W := by
  have cr := fW_cross (W := W) (s := s) w0
  have co := fW_gcd (W := W) (s := s) w0
  generalize (fW W s).1 = p at cr co
  generalize (fW W s).2 = q at cr co ⊢
  have h1 : q.natAbs ∣ p.natAbs * W.natAbs := by
    rw [← Int.natAbs_mul, cr, Int.natAbs_mul]
    exact Nat.dvd_mul_left _ _
  have h2 : Nat.Coprime q.natAbs p.natAbs := by
    show Nat.gcd _ _ = 1
    rw [Nat.gcd_comm]; exact co
  exact Int.natAbs_dvd_natAbs.mp (h2.dvd_of_dvd_mul_left h1)
def botR (W : Int) (r : List Int) : Int := lcF 1 (r.map fun s => (fW W s).2)
def botF (W : Int) (rows : List (List Int)) : Int := lcF 1 (rows.map (botR W))
theorem botR_ok {W : Int} (w0 : 0 < W) (r : List Int) : 0 < botR W r ∧ botR W r ∣ W ∧ ∀ s ∈ r, (fW W s).2 ∣ botR W r := by
  have hp : ∀ b ∈ r.map fun s => (fW W s).2, 0 < b := fun b hb => by
    obtain ⟨s, _, rfl⟩ := List.mem_map.mp hb
    exact fW_pos w0
  refine ⟨lcF_pos (by decide) hp, lcF_least (by decide) hp ⟨W, (Int.one_mul W).symm⟩ fun b hb => ?_, fun s hs => (lcF_dvd (by decide) hp).2 _ (List.mem_map.mpr ⟨s, hs, rfl⟩)⟩
  obtain ⟨s, _, rfl⟩ := List.mem_map.mp hb
  exact fW_dvd w0
theorem botF_ok {W : Int} (w0 : 0 < W) (rows : List (List Int)) : 0 < botF W rows ∧ botF W rows ∣ W ∧ ∀ r ∈ rows, ∀ s ∈ r, (fW W s).2 ∣ botF W rows := by
  have hp : ∀ b ∈ rows.map (botR W), 0 < b := fun b hb => by
    obtain ⟨r, _, rfl⟩ := List.mem_map.mp hb
    exact (botR_ok w0 r).1
  refine ⟨lcF_pos (by decide) hp, lcF_least (by decide) hp ⟨W, (Int.one_mul W).symm⟩ fun b hb => ?_, fun r hr s hs => Int.dvd_trans ((botR_ok w0 r).2.2 s hs) ((lcF_dvd (by decide) hp).2 _ (List.mem_map.mpr ⟨r, hr, rfl⟩))⟩
  obtain ⟨r, _, rfl⟩ := List.mem_map.mp hb
  exact (botR_ok w0 r).2.1
theorem lt4000 {W : Int} (w1 : W < 2 ^ 70) : W < 2 ^ 4000 := by
  have : (2 : Int) ^ 70 < 2 ^ 4000 := by
    have h : (2 : Nat) ^ 70 < 2 ^ 4000 := Nat.pow_lt_pow_right (by decide) (by decide)
    exact_mod_cast h
  exact Int.lt_trans w1 this
abbrev s_bottom_of_all : Stmt := top 18
theorem sc_bottom_of_all : FnScope ["rows"] ["rows"] (defScope s_bottom_of_all) := ⟨rfl, rfl, rfl, by decide +kernel, rfl, by decide +kernel, by decide +kernel⟩
def rBotAll (dd : List Dv) (t : Tr) : Prop := ∃ W rows, 0 < W ∧ W < 2 ^ 70 ∧ rows.length ≤ 20 ∧ dd = [dSh W rows] ∧ t = ti (botF W rows)
theorem ok_bottom_of_all {f f1 : Addr} {fd fd1 : FuncData} {k : Nat} (F : Fun K "bottom_of_all" "bottom_of_all" s_bottom_of_all f fd) (T : Txt mg) (K_common_bottom : Kn P w K mg base CX0 (k + 2) "common_bottom" f1 fd1 ["some"] (spT K rBottom)) : FnOk P w K mg base CX0 (k + 3) f fd ["rows"] (spT K rBotAll) := by
  refine fn_ok F.d sc_bottom_of_all (fun dd t h => by obtain ⟨_, _, _, _, _, rfl, _⟩ := h; rfl) fun dd t h => ?_
  obtain ⟨W, rows, w0, w1, hl, rfl, rfl⟩ := h
  refine ⟨_, .inl rfl, ?_⟩
  have big : 1000 < sizeLine := by decide
  have er1 : er (.ow (rows.map fun r => Tr.tp [ti 1, ti (botR W r)])) = .lst ((rows.map fun r => ((1 : Int), botR W r)).map frD) := by rw [er_ow_map, List.map_map]; rfl
  refine rns_one (rn_ret (Ev.s (ev_call K_common_bottom (Nat.le_refl _) (eva_cons (Ev.as (d := .lst ((rows.map fun r => ((1 : Int), botR W r)).map frD)) (ev_lcm (own := ["row"]) (fr := []) rows (dFs W) (fun r => Tr.tp [ti 1, ti (botR W r)]) (fun i => lcs ⟨rfl, rfl, by decide +kernel, by decide +kernel, by decide +kernel, by decide +kernel⟩) (evi_list (ev_nm 0 rfl) rfl) (evg_nm 0 (fun _ => by show List.Nodup (["row"] : List Str); decide)) (by decide) (by omega) (fun r hr => ⟨_, rfl, by
    exact ev_tup (eva_cons ev_int (eva_cons (ev_call K_common_bottom (Nat.le_refl _) (eva_cons (ev_nm 0 rfl) eva_nil) ⟨r.map (fW W), ⟨W, w0, lt4000 w1, fun b hb => by
      rw [List.map_map] at hb
      obtain ⟨s, _, rfl⟩ := List.mem_map.mp hb
      exact ⟨fW_pos w0, fW_dvd w0⟩⟩, by rw [List.map_map]; rfl, by rw [List.map_map]; rfl⟩) eva_nil)) (by show 2 ≤ sizeLine; decide)⟩) (fun dd => by cases dd <;> rfl)) er1) eva_nil) ⟨rows.map fun r => ((1 : Int), botR W r), ⟨W, w0, lt4000 w1, fun b hb => ?_⟩, rfl, ?_⟩)))
  · rw [List.map_map] at hb
    obtain ⟨r, _, rfl⟩ := List.mem_map.mp hb
    exact ⟨(botR_ok w0 r).1, (botR_ok w0 r).2.1⟩
  · rw [List.map_map]; rfl
def prt (W B s : Int) : Int := (fW W s).1 * (B / (fW W s).2)
def L0 (W : Int) (rows : List (List Int)) : List (List Int) := rows.map fun r => r.map (prt W (botF W rows))
theorem prt_eq {W B s : Int} (w0 : 0 < W) (hd : (fW W s).2 ∣ B) : prt W B s * W = s * B := by
  have cr := fW_cross (W := W) (s := s) w0
  have q0 := fW_pos (W := W) (s := s) w0
  unfold prt
  generalize (fW W s).1 = p at cr
  generalize (fW W s).2 = q at cr q0 hd
  obtain ⟨m, rfl⟩ := hd
  rw [Int.mul_ediv_cancel_left _ (by omega), Int.mul_right_comm, cr, Int.mul_assoc]
theorem sum_prt {W B : Int} (w0 : 0 < W) : ∀ {l : List Int}, (∀ s ∈ l, (fW W s).2 ∣ B) → (l.map (prt W B)).sum * W = l.sum * B
  | [], _ => by rw [List.map_nil, List.sum_nil, Int.zero_mul, Int.zero_mul]
  | s :: l, h => by
    rw [List.map_cons, List.sum_cons, List.sum_cons, Int.add_mul, Int.add_mul, prt_eq w0 (h s (.head _)), sum_prt w0 fun y hy => h y (.tail _ hy)]
theorem lat_prt {W B : Int} (w0 : 0 < W) (r : List Int) (x : Int) : lat (r.map (prt W B)) x = prt W B (lat r x) := by
  unfold lat
  rw [List.getD_eq_getElem?_getD, List.getD_eq_getElem?_getD, List.getElem?_map]
  cases r[x.toNat]? with
  | none =>
    show (0 : Int) = prt W B 0
    unfold prt
    rw [fW_zero w0]
    show (0 : Int) = 0 * _
    rw [Int.zero_mul]
  | some v => rfl
theorem are_lf {W : Int} {c : List Int} {rows : List (List Int)} (sh : ShOk W rows) (n6 : c.length ≤ 6) (c9 : ∀ x ∈ c, 0 ≤ x ∧ x ≤ 9) (ne : rows ≠ []) (A6 : rows.length ≤ 6) (ar : areB W c rows = true) : LfOk c (L0 W rows) (botF W rows) := by
  have w0 := sh.w0
  obtain ⟨b0, bd, bs⟩ := botF_ok w0 rows
  unfold areB at ar
  rw [Bool.and_eq_true] at ar
  have hrow : ∀ r ∈ rows, r.length = c.length + 1 ∧ (∀ s ∈ r, 0 ≤ s) ∧ r.sum = W := fun r hr => by
    have := List.all_eq_true.mp ar.1 r hr
    unfold rowB at this
    rw [Bool.and_eq_true, Bool.and_eq_true] at this
    exact ⟨of_decide_eq_true this.1, fun s hs => of_decide_eq_true (List.all_eq_true.mp this.2.1 s hs), of_decide_eq_true this.2.2⟩
  refine ⟨n6, by unfold L0; rw [List.length_map]; exact A6, fun z => ne (List.map_eq_nil_iff.mp z), c9, fun r hr => ?_, fun k k0 k1 => ?_⟩
  · obtain ⟨r0, h0, rfl⟩ := List.mem_map.mp hr
    have h := hrow r0 h0
    refine ⟨by rw [List.length_map]; exact h.1, fun y hy => ?_, ?_⟩
    · obtain ⟨s, hs, rfl⟩ := List.mem_map.mp hy
      have q0 := fW_pos (W := W) (s := s) w0
      exact Int.mul_nonneg (fW_nonneg w0 (h.2.1 s hs)) (Int.ediv_nonneg (by omega) (by omega))
    · have := sum_prt (B := botF W rows) w0 (l := r0) fun s hs => bs r0 h0 s hs
      rw [h.2.2, Int.mul_comm W] at this
      exact Int.eq_of_mul_eq_mul_right (by omega) this
  · have hc := of_decide_eq_true (List.all_eq_true.mp ar.2 k (mem_nums.mpr ⟨k0, k1⟩))
    have e : colS (L0 W rows) k = ((colF rows k).map (prt W (botF W rows))).sum := by
      unfold colS L0 colF
      rw [List.map_map, List.map_map]
      congr 1
      exact List.map_congr_left fun r _ => lat_prt w0 r k
    have h1 := sum_prt (B := botF W rows) w0 (l := colF rows k) fun s hs => by
      obtain ⟨r, hr, rfl⟩ := List.mem_map.mp hs
      have hl := (hrow r hr).1
      refine bs r hr _ ?_
      exact lat_mem (l := r) k0 (by omega)
    rw [← e] at h1
    have h2 : (colF rows k).sum * botF W rows ≤ lat c k * W * botF W rows := Int.mul_le_mul_of_nonneg_right hc (by omega)
    rw [← h1, Int.mul_right_comm] at h2
    exact Int.le_of_mul_le_mul_right h2 w0
abbrev tMx (m : (Int × Int) × List Int) : Tr := .tp [tF m.1, tInts m.2]
def mixT (W : Int) (c : List Int) (rows : List (List Int)) : List ((Int × Int) × List Int) := mixF c 48 (L0 W rows) (botF W rows) (botF W rows)
structure MixIn (W : Int) (c : List Int) (rows : List (List Int)) : Prop where
  sh : ShOk W rows
  n6 : c.length ≤ 6
  c9 : ∀ x ∈ c, 0 ≤ x ∧ x ≤ 9
  ne : rows ≠ []
  A6 : rows.length ≤ 6
  ar : areB W c rows = true
def rMix (dd : List Dv) (t : Tr) : Prop := ∃ W c rows, MixIn W c rows ∧ dd = [dis c, dSh W rows] ∧ t = .ow ((mixT W c rows).map tMx)
structure MxSt where
  L : List (List Int)
  R : Int
  B : Int
  acc : List ((Int × Int) × List Int)
  f : Nat
structure MxOk (c : List Int) (res : List ((Int × Int) × List Int)) (s : MxSt) : Prop where
  lf : LfOk c s.L s.R
  me : meas c s.L s.R ≤ s.f
  B0 : 0 < s.B
  Bb : s.B * 9 ^ s.f < 2 ^ 224
  Rb : s.R * 9 ^ s.f < 2 ^ 224
  eq : s.acc ++ mixF c s.f s.L s.R s.B = res
  len : s.acc.length + s.f ≤ 48
theorem pow_le {a : Int} {f : Nat} (h0 : 0 ≤ a) (h : a * 9 ^ f < 2 ^ 224) : a < 2 ^ 225 := by
  have h1 : (1 : Int) ≤ 9 ^ f := by
    have : (1 : Nat) ≤ 9 ^ f := Nat.le_trans Nat.one_le_two_pow (Nat.pow_le_pow_left (by decide) f)
    exact_mod_cast this
  have : a * 1 ≤ a * 9 ^ f := Int.mul_le_mul_of_nonneg_left h1 h0
  omega
theorem pow_step {a b : Int} {f : Nat} (h : a * 9 ^ (f + 1) < 2 ^ 224) (hb : b ≤ a * 9) : b * 9 ^ f < 2 ^ 224 := by
  have h0 : (0 : Int) ≤ 9 ^ f := Int.pow_nonneg (by decide)
  have h1 : b * 9 ^ f ≤ a * 9 * 9 ^ f := Int.mul_le_mul_of_nonneg_right hb h0
  rw [Int.pow_succ, Int.mul_comm (9 ^ f) 9, ← Int.mul_assoc] at h
  omega
theorem gd_mx (l : List ((Int × Int) × List Int)) : gdTs (l.map tMx) = true := gdTs_of fun t ht => by
  obtain ⟨m, _, rfl⟩ := List.mem_map.mp ht
  show (true && (true && (gdTs (m.2.map fun n => Tr.fz (di n)) && true))) = true
  rw [gdTs_of fun t ht => by obtain ⟨x, _, rfl⟩ := List.mem_map.mp ht; rfl]; rfl
abbrev s_mix_of : Stmt := top 30
theorem sc_mix_of : FnScope ["counts", "shares", "bottom", "left", "mix", "deal", "weight"] ["counts", "shares"] (defScope s_mix_of) := ⟨rfl, rfl, rfl, by decide +kernel, rfl, by decide +kernel, by decide +kernel⟩
theorem ok_mix_of {f f1 f2 f3 f4 f5 f6 f7 : Addr} {fd fd1 fd2 fd3 fd4 fd5 fd6 fd7 : FuncData} {k : Nat} (F : Fun K "mix_of" "mix_of" s_mix_of f fd) (T : Txt mg) (K_are_shares : Kn P w K mg base CX0 (k + 6) "are_shares" f1 fd1 ["counts", "shares"] (spT K rAre)) (K_bottom_of_all : Kn P w K mg base CX0 (k + 3) "bottom_of_all" f2 fd2 ["rows"] (spT K rBotAll)) (K_parts_of : Kn P w K mg base CX0 (k + 1) "parts_of" f3 fd3 ["one", "bottom"] (spT K rParts)) (K_next_deal : Kn P w K mg base CX0 (k + 11) "next_deal" f4 fd4 ["counts", "left"] (spT K rNext)) (K_most_weight : Kn P w K mg base CX0 (k + 3) "most_weight" f5 fd5 ["counts", "left", "deal"] (spT K rMost)) (K_left_after : Kn P w K mg base CX0 (k + 1) "left_after" f6 fd6 ["left", "deal", "weight"] (spT K rAfter)) (K_fraction : Kn P w K mg base CX0 (k + 2) "fraction" f7 fd7 ["top", "bottom"] (spT K rFrac)) : FnOk P w K mg base CX0 (k + 12) f fd ["counts", "shares"] (spT K rMix) := by
  refine fn_ok F.d sc_mix_of (fun dd t h => by obtain ⟨_, _, _, _, rfl, _⟩ := h; rfl) fun dd t h => ?_
  obtain ⟨W, c, rows, mi, rfl, rfl⟩ := h
  refine ⟨_, .inl rfl, ?_⟩
  have big : 1000 < sizeLine := by decide
  obtain ⟨tk, gm⟩ := T.g_MOST
  have n6 := mi.n6
  have A6 := mi.A6
  have w0 := mi.sh.w0
  have w1 := mi.sh.w1
  have Lp := List.length_pos_iff.mpr mi.ne
  have el : ∀ {α : Type} (g : α → Dv) (l : List α), ((l.map g).length : Int) = l.length := fun g l => by rw [List.length_map]
  have r1 : k + 1 ≤ k + 11 := by omega
  have r2 : k + 2 ≤ k + 11 := by omega
  have r3 : k + 3 ≤ k + 11 := by omega
  have r6 : k + 6 ≤ k + 11 := by omega
  refine rns_cons (rn_skip (Et.s (Ew.et (ew_or (et_eq (ev_len T.b_len (ev_nm 1 rfl) (.inl rfl)) ev_int) fun _ => (ew_or (et_gt (ev_len T.b_len (ev_nm 1 rfl) (.inl rfl)) (ev_glob (v := .int 6) gm ⟨_, rfl⟩ rfl)) fun _ => (ew_or1 (et_not (et_val (ev_call (t := tb (areB W c rows)) K_are_shares r6 (eva_cons (ev_nm 0 rfl) (eva_cons (ev_nm 1 rfl) eva_nil)) ⟨W, c, rows, mi.sh, n6, mi.c9, rfl, rfl⟩)))))))) ?_) ?_
  · rw [el, decide_eq_false (by omega), decide_eq_false (by omega), mi.ar]; rfl
  refine rns_cons (rn_set 2 (Ev.s (ev_call K_bottom_of_all r3 (eva_cons (ev_nm 1 rfl) eva_nil) ⟨W, rows, w0, w1, by omega, rfl, rfl⟩)) (fun _ => sc_mix_of.nd)) ?_
  obtain ⟨b0, bd, bs⟩ := botF_ok w0 rows
  have bW := Int.le_of_dvd w0 bd
  have lf := are_lf mi.sh n6 mi.c9 mi.ne A6 mi.ar
  refine rns_cons (rn_lcG 3 (ElcS (Elc.as (d := .lst ((L0 W rows).map dis)) (elcm (own := ["row"]) (fr := [2]) rows (dFs W) (fun r => tInts (r.map (prt W (botF W rows)))) (evi_list (ev_nm 1 rfl) rfl) (evg_nm 0 (fun _ => by show List.Nodup (["row", "bottom"] : List Str); decide)) (by decide) (by omega) (fun r hr => ⟨_, rfl, by
    have hl := (mi.sh.row r hr).len
    exact Ev.to (ev_lcm (own := ["share"]) (fr := [1]) r (fun s => dF (fW W s)) (fun s => ti (prt W (botF W rows) s)) (fun i => lcs2' ["row", "bottom"] ⟨rfl, by decide +kernel, by decide +kernel, by decide +kernel, by decide +kernel⟩ fun y hy => closF_has _ _ y hy) (evi_list (ev_nm 0 rfl) rfl) (evg_nm 0 (fun _ => by show List.Nodup (["share", "bottom"] : List Str); decide)) (by decide) (by omega) (fun s hs => ⟨_, rfl, by
      have sb := (mi.sh.row r hr).b s hs
      have q0 := fW_pos (W := W) (s := s) w0
      have q1 := fW_le (W := W) (s := s) w0
      have p1 := fW_top (W := W) (s := s) w0
      have m0 : 0 ≤ botF W rows / (fW W s).2 := Int.ediv_nonneg (by omega) (by omega)
      have m1 : botF W rows / (fW W s).2 ≤ botF W rows := Int.ediv_le_self _ (by omega)
      exact ev_call K_parts_of r1 (eva_cons (ev_nm 0 rfl) (eva_cons (ev_nm 1 rfl) eva_nil)) ⟨(fW W s).1, (fW W s).2, botF W rows, q0, bigI (by omega) (by omega), lt_big (n := 250) (by omega) (by decide), bigI m0 (by omega), rfl, rfl⟩⟩) (fun dd => by cases dd <;> rfl)) (by show Tr.ow _ = Tr.ow _; rw [List.map_map]; rfl)⟩) (fun dd => by cases dd <;> rfl)) (by rw [er_ow_map]; unfold L0; rw [List.map_map]; congr 1; exact List.map_congr_left fun r _ => er_tInts _))) (fun i => lcs ⟨rfl, rfl, by decide +kernel, by decide +kernel, by decide +kernel, by decide +kernel⟩) (fun _ => sc_mix_of.nd)) ?_
  refine rns_cons (rn_set 4 (Ev.s (ev_lst eva_nil (Nat.zero_le _))) (fun _ => sc_mix_of.nd)) ?_
  have pw : ∀ a : Int, a < 2 ^ 70 → a * 9 ^ 48 < 2 ^ 224 := fun a ha => by omega
  refine rns_while_by (fun s : MxSt => [some (.fz (dis c)), some (.fz (dSh W rows)), some (ti s.B), some (.fz (.lst (s.L.map dis))), some (.ow (s.acc.map tMx)), none, none]) (MxOk c (mixT W c rows)) (fun s => decide (0 < s.R)) (fun s => s.f) ⟨L0 W rows, botF W rows, botF W rows, [], 48⟩ rfl ⟨lf, meas_le lf, b0, pw (botF W rows) (by omega), pw (botF W rows) (by omega), rfl, by show 0 + 48 ≤ 48; decide⟩ (fun s ok => ?_) (fun s ok hp => ?_) (fun s ok hp => ?_)
  · have lf := ok.lf
    have Lp := List.length_pos_iff.mpr lf.ne
    have ro := lf.rowA (a := 0) (by decide) (by omega)
    exact EtS.to (Et.s (et_gt (ev_sum T.b_sum (ev_ix (d := dis (s.L.getD (0 : Int).toNat [])) (ev_nm 3 rfl) ev_int rfl (row_at2 (by decide) (by omega))) rfl) ev_int)) (by rw [ro.2.2])
  · obtain ⟨L, R, B, acc, f⟩ := s
    obtain ⟨lf, me, B0, Bb, Rb, eq, len⟩ := ok
    simp only at lf me B0 Bb Rb eq len
    have R0 : 0 < R := of_decide_eq_true hp
    have dl := lf.deal R0
    have g := lf.dlok dl.1
    have wo := lf.wok g
    have mp := meas_pos lf g
    obtain ⟨f', rfl⟩ : ∃ f', f = f' + 1 := ⟨f - 1, by omega⟩
    have R1 := pow_le (by omega) Rb
    have B1 := pow_le (by omega) Bb
    have lf2 := lf.next g wo
    have ls := lf.less g wo
    have ub : (wF c L R (dealF c L R)) = ((wF c L R (dealF c L R)).1, (wF c L R (dealF c L R)).2) := rfl
    have eq2 : acc ++ (((lT (wF c L R (dealF c L R)).1 (B * (wF c L R (dealF c L R)).2), lB (wF c L R (dealF c L R)).1 (B * (wF c L R (dealF c L R)).2)), dealF c L R) :: mixF c f' (nxtL (wF c L R (dealF c L R)).1 (wF c L R (dealF c L R)).2 L (dealF c L R)) (R * (wF c L R (dealF c L R)).2 - (wF c L R (dealF c L R)).1) (B * (wF c L R (dealF c L R)).2)) = mixT W c rows := by
      rw [← eq]
      show _ = acc ++ mixF c (f' + 1) L R B
      unfold mixF
      rw [if_pos R0]
      cases f' <;> rfl
    have hww : wF c L R (dealF c L R) = wF c L R (dealF c L R) := rfl
    generalize hd : dealF c L R = d at dl g wo lf2 ls eq2
    generalize hw : wF c L R d = wt at wo lf2 ls eq2
    obtain ⟨p, q⟩ := wt
    simp only at wo lf2 ls eq2
    have q0 := wo.q0
    have q9 := wo.q9
    have p0 := wo.p0
    have Bq : B * q ≤ B * 9 := Int.mul_le_mul_of_nonneg_left q9 (by omega)
    have Rq : R * q ≤ R * 9 := Int.mul_le_mul_of_nonneg_left q9 (by omega)
    have Bq0 : 0 < B * q := Int.mul_pos B0 q0
    refine ⟨⟨nxtL p q L d, R * q - p, B * q, acc ++ [((lT p (B * q), lB p (B * q)), d)], f'⟩, ⟨lf2, by show meas c (nxtL p q L d) (R * q - p) ≤ f'; omega, Bq0, pow_step Bb Bq, pow_step (b := R * q - p) Rb (by omega), by rw [← eq2]; show acc ++ [_] ++ _ = _; rw [List.append_assoc]; rfl, by show (acc ++ [_]).length + f' ≤ 48; rw [List.length_append, List.length_singleton]; omega⟩, Nat.lt_succ_self _, ?_⟩
    show Rns _ _ [some (.fz (dis c)), some (.fz (dSh W rows)), some (ti B), some (.fz (.lst (L.map dis))), some (.ow (acc.map tMx)), none, none] _
    refine rns_cons (rn_set 5 (EvS.to (t' := tInts d) (Ev.s (ev_call K_next_deal (Nat.le_refl _) (eva_cons (ev_nm 0 rfl) (eva_cons (ev_nm 3 rfl) eva_nil)) ⟨c, L, R, lf, R0, by omega, rfl, rfl⟩)) (by rw [hd])) (fun _ => sc_mix_of.nd)) ?_
    show Rns _ _ [some (.fz (dis c)), some (.fz (dSh W rows)), some (ti B), some (.fz (.lst (L.map dis))), some (.ow (acc.map tMx)), some (tInts d), none] _
    have gds : gdS [some (.fz (dis c)), some (.fz (dSh W rows)), some (ti B), some (.fz (.lst (L.map dis))), some (.ow (acc.map tMx)), some (tInts d), none] = true := by
      show (true && (true && (true && (true && (gdTs (acc.map tMx) && (gdTs (d.map fun n => Tr.fz (di n)) && (true && true))))))) = true
      rw [gd_mx, gdTs_of fun t ht => by obtain ⟨x, _, rfl⟩ := List.mem_map.mp ht; rfl]; rfl
    refine rns_cons (rn_set 6 (Ev.pkL (t := tF (p, q)) (ev_call K_most_weight r3 (eva_cons (ev_nm 0 rfl) (eva_cons (ev_nm 3 rfl) (eva_cons (ev_nm 5 rfl) eva_nil))) ⟨c, L, R, d, lf, g, by omega, ?_, by rw [hw]⟩) rfl gds) (fun _ => sc_mix_of.nd)) ?_
    rotate_left
    · show [_, _, er (tInts d)] = _
      rw [er_tInts]; rfl
    refine rns_cons (rn_set 3 (Ev.pk (t := tRows (nxtL p q L d)) (ev_call K_left_after r1 (eva_cons (ev_nm 3 rfl) (eva_cons (ev_nm 5 rfl) (eva_cons (ev_nm 6 rfl) eva_nil))) ⟨c, L, R, d, p, q, lf, g, by omega, q0, q9, ?_, rfl⟩) (cl_tRows _)) (fun _ => sc_mix_of.nd)) ?_
    rotate_left
    · show [_, er (tInts d), _] = _
      rw [er_tInts]; rfl
    refine rns_freezeTo (d := .lst ((nxtL p q L d).map dis)) 3 rfl (er_tRows _) ?_
    refine rns_cons (rn_set 2 (Ev.s (ev_mul (ev_nm 2 rfl) (ev_ixT (d := di q) (ev_nm 6 rfl) ev_int rfl rfl) ⟨bigI (by omega) (by omega), bigI (by omega) (by omega)⟩)) (fun _ => sc_mix_of.nd)) ?_
    show Rns _ _ [some (.fz (dis c)), some (.fz (dSh W rows)), some (ti (B * q)), some (.fz (.lst ((nxtL p q L d).map dis))), some (.ow (acc.map tMx)), some (tInts d), some (tF (p, q))] _
    refine rns_cons (rn_append2 4 5 (us := acc.map tMx) (t := tInts d) (d := dF (lT p (B * q), lB p (B * q))) (by decide) rfl rfl (Ev.s (ev_call K_fraction r2 (eva_cons (ev_ixT (d := di p) (ev_nm 6 rfl) ev_int rfl rfl) (eva_cons (ev_nm 2 rfl) eva_nil)) ⟨p, B * q, Bq0, bigI (by omega) (by omega), rfl, rfl⟩)) (by rw [List.length_map]; omega) (hps := fun i τ hτ => ps_expr (pe_bm PySem.F.plainAttrs_list PySem.F.slot_list_append PySem.F.type_list_append mt_append (pv 4) (pa_cons (pe_tup (pa_cons hτ (pa_cons (pv 5) pa_nil))) pa_nil)))) ?_
    refine Rns.to (rns_nilF (ρ2 := [some (.fz (dis c)), some (.fz (dSh W rows)), some (ti (B * q)), some (.fz (.lst ((nxtL p q L d).map dis))), some (.ow (acc.map tMx ++ [.tp [tF (lT p (B * q), lB p (B * q)), tInts d]])), none, none]) ⟨[6], rfl⟩) ?_
    show _ = Out.nx [_, _, _, _, some (Tr.ow (List.map _ (_ ++ [_]))), _, _]
    rw [List.map_append]; rfl
  · obtain ⟨L, R, B, acc, f⟩ := s
    have eq := ok.eq
    simp only at eq hp
    have hR := of_decide_eq_false hp
    have em : mixF c f L R B = [] := by
      cases f with
      | zero => rfl
      | succ f => unfold mixF; rw [if_neg hR]
    rw [em, List.append_nil] at eq
    rw [← eq]
    exact rns_one (rn_retO 4 rfl)
end
end K35
namespace K35
open PySem L2 Fra
section
variable {P : Program} {w : World} {K : PySem.W.Frag} {mg : Str → Option Value} {base : Heap}
def wtF (M : List (Int × List Int)) (a x : Int) : Int := ((M.filter fun m => decide (lat m.2 a = x)).map (·.1)).sum
theorem mix_end {c : List Int} {f : Nat} {L : List (List Int)} {R B : Int} (h : ¬ 0 < R) : mixF c f L R B = [] := by
  cases f with
  | zero => rfl
  | succ f => unfold mixF; rw [if_neg h]
structure D01 (c d : List Int) : Prop where
  n6 : c.length ≤ 6
  c9 : ∀ x ∈ c, 0 ≤ x ∧ x ≤ 9
  ne : d ≠ []
  A6 : d.length ≤ 6
  dr : ∀ x ∈ d, 0 ≤ x ∧ x ≤ c.length
  cnt : ∀ k : Int, 0 ≤ k → k < c.length → (d.count k : Int) ≤ lat c k
theorem wtF_nil (a x : Int) : wtF [] a x = 0 := rfl
theorem wtF_cons (m : Int × List Int) (M : List (Int × List Int)) (a x : Int) : wtF (m :: M) a x = (if lat m.2 a = x then m.1 else 0) + wtF M a x := by
  unfold wtF
  rw [List.filter_cons]
  by_cases h : lat m.2 a = x
  · rw [if_pos (decide_eq_true h), if_pos h, List.map_cons, List.sum_cons]
  · rw [if_neg (by rw [decide_eq_false h]; decide), if_neg h, Int.zero_add]
structure MxS (c : List Int) (L : List (List Int)) (R B D : Int) (M : List (Int × List Int)) : Prop where
  D0 : 0 < D
  bd : ∃ E : Int, 0 < E ∧ D = B * E
  tot : (M.map (·.1)).sum * B = R * D
  wt : ∀ a x : Int, 0 ≤ a → a < L.length → 0 ≤ x → x ≤ c.length → wtF M a x * B = lat (L.getD a.toNat []) x * D
  pos : ∀ m ∈ M, 0 < m.1
  len : ∀ m ∈ M, m.2.length = L.length
  rng : ∀ m ∈ M, ∀ x ∈ m.2, 0 ≤ x ∧ x ≤ c.length
  cnt : ∀ m ∈ M, ∀ k : Int, 0 ≤ k → k < c.length → (m.2.count k : Int) ≤ lat c k
  ent : ∀ m ∈ M, ∀ a : Int, 0 ≤ a → a < L.length → 0 < lat (L.getD a.toNat []) (lat m.2 a)
  sp : ∀ m ∈ M, ∀ k : Int, 0 ≤ k → k < c.length → spr c L R k = 0 → unu c m.2 k = 0
  nd : (M.map (·.2)).Nodup
  ml : M.length ≤ meas c L R
theorem MxS.nil {c : List Int} {L : List (List Int)} {R B : Int} (lf : LfOk c L R) (B0 : 0 < B) (h : ¬ 0 < R) : MxS c L R B B [] := by
  have R0 := lf.R0
  have e : R = 0 := by omega
  refine ⟨B0, ⟨1, by decide, (Int.mul_one B).symm⟩, by rw [e]; show 0 * B = 0 * B; rfl, fun a x a0 a1 x0 x1 => ?_, (fun _ z => nomatch z), (fun _ z => nomatch z), (fun _ z => nomatch z), (fun _ z => nomatch z), (fun _ z => nomatch z), (fun _ z => nomatch z), .nil, Nat.zero_le _⟩
  have ro := lf.rowA a0 a1
  have h1 := lat_ge ro.2.1 x
  have h2 := lat_le_sum ro.2.1 x
  rw [wtF_nil, show lat (L.getD a.toNat []) x = 0 by omega]
theorem mul_step {u v p q B D E : Int} (q0 : 0 < q) (hD : D = B * q * E) (h : u * (B * q) = (v * q - p) * D) : (p * E + u) * B = v * D := by
  refine Int.eq_of_mul_eq_mul_right (show q ≠ 0 by omega) ?_
  have h1 : p * E * (B * q) = p * D := by rw [hD, Int.mul_assoc, Int.mul_comm E]
  rw [Int.mul_assoc, Int.add_mul, h1, h, Int.sub_mul, Int.mul_right_comm v q D]
  omega
theorem mixF_sem {c : List Int} : ∀ (f : Nat) {L : List (List Int)} {R B : Int}, LfOk c L R → 0 < B → meas c L R ≤ f → ∃ D M, MxS c L R B D M ∧ mixF c f L R B = M.map (fun m => (fW D m.1, m.2)) ∧ D ≤ B * 9 ^ f := by
  intro f
  induction f with
  | zero =>
    intro L R B lf B0 me
    by_cases R0 : 0 < R
    · have := meas_pos lf (lf.dlok (lf.deal R0).1)
      omega
    · exact ⟨B, [], .nil lf B0 R0, rfl, by show B ≤ B * 1; omega⟩
  | succ f ih =>
    intro L R B lf B0 me
    by_cases R0 : 0 < R
    · have g := lf.dlok (lf.deal R0).1
      have wo := lf.wok g
      have lf2 := lf.next g wo
      have ls := lf.less g wo
      have em : mixF c (f + 1) L R B = ((lT (wF c L R (dealF c L R)).1 (B * (wF c L R (dealF c L R)).2), lB (wF c L R (dealF c L R)).1 (B * (wF c L R (dealF c L R)).2)), dealF c L R) :: mixF c f (nxtL (wF c L R (dealF c L R)).1 (wF c L R (dealF c L R)).2 L (dealF c L R)) (R * (wF c L R (dealF c L R)).2 - (wF c L R (dealF c L R)).1) (B * (wF c L R (dealF c L R)).2) := by
        conv => lhs; unfold mixF
        rw [if_pos R0]
      generalize dealF c L R = d at g wo lf2 ls em
      generalize (wF c L R d).1 = p at wo lf2 ls em
      generalize (wF c L R d).2 = q at wo lf2 ls em
      have q0 := wo.q0
      have q9 := wo.q9
      have p0 := wo.p0
      have Bq : 0 < B * q := Int.mul_pos B0 q0
      obtain ⟨D, M, ms, e2, hD⟩ := ih lf2 Bq (by omega)
      obtain ⟨E, E0, eD⟩ := ms.bd
      have D0 := ms.D0
      have lL := nxt_len (p := p) (q := q) g.dl
      have rowN' : ∀ a x : Int, 0 ≤ a → a < L.length → 0 ≤ x → x ≤ c.length → lat ((nxtL p q L d).getD a.toNat []) x = lat (L.getD a.toNat []) x * q - if lat d a = x then p else 0 := fun a x a0 a1 x0 x1 => by
        have ro := lf.rowA a0 a1
        rw [nxt_row g.dl a0 a1, rowN_lat (g.pos a a0 a1).1.1 x0 (by rw [ro.1]; omega)]
      have mr : ∀ m ∈ M, ∀ a : Int, 0 ≤ a → a < L.length → 0 ≤ lat m.2 a ∧ lat m.2 a ≤ c.length := fun m hm a a0 a1 => ms.rng m hm _ (lat_mem a0 (by rw [ms.len m hm, lL]; exact a1))
      refine ⟨D, (p * E, d) :: M, ⟨D0, ⟨q * E, Int.mul_pos q0 E0, by rw [eD, Int.mul_assoc]⟩, ?_, fun a x a0 a1 x0 x1 => ?_, fun m hm => ?_, fun m hm => ?_, fun m hm => ?_, fun m hm => ?_, fun m hm a a0 a1 => ?_, fun m hm k k0 k1 hk => ?_, ?_, ?_⟩, ?_, ?_⟩
      · rw [List.map_cons, List.sum_cons]
        exact mul_step q0 eD ms.tot
      · have hw := ms.wt a x a0 (by rw [lL]; exact a1) x0 x1
        rw [rowN' a x a0 a1 x0 x1] at hw
        rw [wtF_cons]
        show ((if lat d a = x then p * E else 0) + _) * B = _
        by_cases e : lat d a = x
        · rw [if_pos e] at hw ⊢
          exact mul_step q0 eD hw
        · rw [if_neg e] at hw ⊢
          have := mul_step (p := 0) q0 eD hw
          rw [Int.zero_mul] at this
          exact this
      · rcases List.mem_cons.mp hm with rfl | hm
        · exact Int.mul_pos p0 E0
        · exact ms.pos m hm
      · rcases List.mem_cons.mp hm with rfl | hm
        · exact g.dl
        · rw [ms.len m hm, lL]
      · rcases List.mem_cons.mp hm with rfl | hm
        · exact g.dr
        · exact ms.rng m hm
      · rcases List.mem_cons.mp hm with rfl | hm
        · intro k k0 k1
          have := (g.u k k0 k1).1
          unfold unu at this
          show (d.count k : Int) ≤ _
          omega
        · exact ms.cnt m hm
      · rcases List.mem_cons.mp hm with rfl | hm
        · exact (g.pos a a0 a1).2
        · have h1 := ms.ent m hm a a0 (by rw [lL]; exact a1)
          have h2 := mr m hm a a0 a1
          rw [rowN' a _ a0 a1 h2.1 h2.2] at h1
          have h3 := lf.ge a (lat m.2 a)
          rcases Int.lt_or_eq_of_le h3 with z | z
          · exact z
          · rw [← z, Int.zero_mul] at h1
            split at h1 <;> omega
      · rcases List.mem_cons.mp hm with rfl | hm
        · exact (g.u k k0 k1).2.2 hk
        · refine ms.sp m hm k k0 k1 ?_
          rw [nxt_spr lf g k0 k1, hk, (g.u k k0 k1).2.2 hk, Int.zero_mul, Int.mul_zero]; rfl
      · rw [List.map_cons]
        refine List.nodup_cons.mpr ⟨fun z => ?_, ms.nd⟩
        obtain ⟨m, hm, em'⟩ := List.mem_map.mp z
        have em' : m.2 = d := em'
        rcases wo.hit with ⟨a, a0, a1, e⟩ | ⟨k, k0, k1, hu, e⟩
        · have h1 := ms.ent m hm a a0 (by rw [lL]; exact a1)
          rw [em', rowN' a _ a0 a1 (g.pos a a0 a1).1.1 (g.pos a a0 a1).1.2, if_pos rfl] at h1
          omega
        · have h1 := ms.sp m hm k k0 k1 (by rw [nxt_spr lf g k0 k1]; omega)
          rw [em'] at h1
          omega
      · have := ms.ml
        rw [List.length_cons]; omega
      · rw [em, e2, List.map_cons]
        have : (lT p (B * q), lB p (B * q)) = fW D (p * E) := fW_same D0 (by omega) (by rw [eD, Int.mul_assoc p E, Int.mul_comm E])
        rw [this]
      · have h9 : B * q * 9 ^ f ≤ B * 9 * 9 ^ f := Int.mul_le_mul_of_nonneg_right (Int.mul_le_mul_of_nonneg_left q9 (by omega)) (Int.pow_nonneg (by decide))
        rw [Int.pow_succ, Int.mul_comm (9 ^ f) 9, ← Int.mul_assoc]
        omega
    · refine ⟨B, [], .nil lf B0 R0, mix_end R0, ?_⟩
      have h1 : (1 : Int) ≤ 9 ^ (f + 1) := by
        have : (1 : Nat) ≤ 9 ^ (f + 1) := Nat.le_trans Nat.one_le_two_pow (Nat.pow_le_pow_left (by decide) (f + 1))
        exact_mod_cast this
      have : B * 1 ≤ B * 9 ^ (f + 1) := Int.mul_le_mul_of_nonneg_left h1 (by omega)
      omega
theorem sum_nums {α : Type} (h : α → Nat) (z : α) (hz : h z = 0) (l : List α) {n : Nat} (hn : l.length ≤ n) : ((numsF n).map fun a => h (l.getD a.toNat z)).sum = (l.map h).sum := by
  have e : ((numsF n).map fun a => h (l.getD a.toNat z)) = l.map h ++ List.replicate (n - l.length) 0 := by
    refine List.ext_getElem (by rw [List.length_map, nums_len, List.length_append, List.length_map, List.length_replicate]; omega) fun i h1 h2 => ?_
    rw [List.length_map, nums_len] at h1
    rw [List.getElem_map]
    have e0 : (numsF n)[i]'(by rw [nums_len]; exact h1) = (i : Int) := by
      have := nums_get (n := n) (k := (i : Int)) (by omega) (by omega)
      rw [Int.toNat_natCast, List.getElem?_eq_getElem (by rw [nums_len]; exact h1)] at this
      exact Option.some.inj this
    rw [e0, Int.toNat_natCast, List.getD_eq_getElem?_getD]
    by_cases hi : i < l.length
    · rw [List.getElem_append_left (by rw [List.length_map]; exact hi), List.getElem_map, List.getElem?_eq_getElem hi]; rfl
    · rw [List.getElem_append_right (by rw [List.length_map]; omega), List.getElem_replicate, List.getElem?_eq_none (by omega)]; exact hz
  rw [e, List.sum_append, List.sum_replicate_nat, Nat.mul_zero, Nat.add_zero]
theorem countP_sum {α : Type} (p : α → Bool) : ∀ l : List α, l.countP p = (l.map fun x => if p x = true then 1 else 0).sum
  | [] => rfl
  | x :: l => by
    rw [List.countP_cons, List.map_cons, List.sum_cons, countP_sum p l]
    omega
theorem cnt_cells {L : List (List Int)} (A6 : L.length ≤ 6) (r7 : ∀ r ∈ L, r.length ≤ 7) : cells6.countP (fun s => decide (0 < lat (L.getD s.1.toNat []) s.2)) = (L.map fun r => r.countP fun y => decide (0 < y)).sum := by
  unfold cells6
  rw [List.countP_flatMap]
  have e : ((numsF 6).map fun a => ((numsF 7).map fun x => (a, x)).countP fun s : Int × Int => decide (0 < lat (L.getD s.1.toNat []) s.2)) = (numsF 6).map fun a => (fun r : List Int => (numsF 7).countP fun x => decide (0 < lat r x)) (L.getD a.toNat []) := List.map_congr_left fun a _ => by
    rw [List.countP_map]; rfl
  show ((numsF 6).map fun a => ((numsF 7).map fun x => (a, x)).countP fun s : Int × Int => decide (0 < lat (L.getD s.1.toNat []) s.2)).sum = _
  rw [e, sum_nums (fun r : List Int => (numsF 7).countP fun x => decide (0 < lat r x)) [] (by decide) L A6]
  congr 1
  refine List.map_congr_left fun r hr => ?_
  show (numsF 7).countP (fun x => decide (0 < lat r x)) = r.countP fun y => decide (0 < y)
  rw [countP_sum, countP_sum]
  exact sum_nums (fun y : Int => if decide (0 < y) = true then 1 else 0) 0 rfl r (r7 r hr)
structure Mx35 (W : Int) (c : List Int) (rows : List (List Int)) (D : Int) (M : List (Int × List Int)) : Prop where
  D0 : 0 < D
  D1 : D < 2 ^ 230
  eq : mixT W c rows = M.map fun m => (fW D m.1, m.2)
  tot : (M.map (·.1)).sum = D
  wt : ∀ a x : Int, 0 ≤ a → a < rows.length → 0 ≤ x → x ≤ c.length → fW D (wtF M a x) = fW W (lat (rows.getD a.toNat []) x)
  pos : ∀ m ∈ M, 0 < m.1
  len : ∀ m ∈ M, m.2.length = rows.length
  rng : ∀ m ∈ M, ∀ x ∈ m.2, 0 ≤ x ∧ x ≤ c.length
  cnt : ∀ m ∈ M, ∀ k : Int, 0 ≤ k → k < c.length → (m.2.count k : Int) ≤ lat c k
  nd : (M.map (·.2)).Nodup
  ml : M.length ≤ c.length + (rows.map fun r => r.countP fun s => decide (0 < (fW W s).1)).sum
  m48 : M.length ≤ 48
theorem MixIn.sem {W : Int} {c : List Int} {rows : List (List Int)} (mi : MixIn W c rows) : ∃ D M, Mx35 W c rows D M := by
  have w0 := mi.sh.w0
  have w1 := mi.sh.w1
  have lf := are_lf mi.sh mi.n6 mi.c9 mi.ne mi.A6 mi.ar
  obtain ⟨b0, bd, bs⟩ := botF_ok w0 rows
  have bW := Int.le_of_dvd w0 bd
  obtain ⟨D, M, ms, eq, hD⟩ := mixF_sem 48 lf b0 (meas_le lf)
  have ll : (L0 W rows).length = rows.length := by unfold L0; rw [List.length_map]
  have n6 := mi.n6
  have rlen : ∀ r ∈ rows, r.length = c.length + 1 := fun r hr => by
    have := (lf.row (r.map (prt W (botF W rows))) (List.mem_map.mpr ⟨r, hr, rfl⟩)).1
    rw [List.length_map] at this
    exact this
  refine ⟨D, M, ms.D0, ?_, eq, ?_, fun a x a0 a1 x0 x1 => ?_, ms.pos, fun m hm => by rw [ms.len m hm, ll], ms.rng, ms.cnt, ms.nd, ?_, Nat.le_trans ms.ml (meas_le lf)⟩
  · have : botF W rows * 9 ^ 48 < 2 ^ 230 := by omega
    omega
  · have := ms.tot
    rw [Int.mul_comm (botF W rows) D] at this
    exact Int.eq_of_mul_eq_mul_right (by omega) this
  · have h1 := ms.wt a x a0 (by rw [ll]; exact a1) x0 x1
    have hr : rows.getD a.toNat [] ∈ rows := row_mem a0 a1
    have e : lat ((L0 W rows).getD a.toNat []) x = prt W (botF W rows) (lat (rows.getD a.toNat []) x) := by
      unfold L0
      rw [getD_map' (fun r : List Int => r.map (prt W (botF W rows))) rfl, lat_prt w0]
    rw [e] at h1
    have hs : lat (rows.getD a.toNat []) x ∈ rows.getD a.toNat [] := lat_mem x0 (by rw [rlen _ hr]; omega)
    have h2 := prt_eq w0 (bs _ hr _ hs)
    have h3 : wtF M a x * W = lat (rows.getD a.toNat []) x * D := by
      refine Int.eq_of_mul_eq_mul_right (show botF W rows ≠ 0 by omega) ?_
      rw [Int.mul_right_comm, h1, Int.mul_right_comm, h2, Int.mul_right_comm]
    exact fW_same w0 (by have := ms.D0; omega) h3
  · have h1 := ms.ml
    have h2 : (numsF c.length).countP (fun k => decide (0 < spr c (L0 W rows) (botF W rows) k)) ≤ c.length := by
      have := List.countP_le_length (p := fun k => decide (0 < spr c (L0 W rows) (botF W rows) k)) (l := numsF c.length)
      rw [nums_len] at this
      exact this
    have h3 := cnt_cells (L := L0 W rows) (by rw [ll]; exact mi.A6) fun r hr => by
      have := (lf.row r hr).1
      omega
    have h4 : ((L0 W rows).map fun r => r.countP fun y => decide (0 < y)) = rows.map fun r => r.countP fun s => decide (0 < (fW W s).1) := by
      unfold L0
      rw [List.map_map]
      refine List.map_congr_left fun r hr => ?_
      show (r.map (prt W (botF W rows))).countP _ = _
      rw [List.countP_map]
      refine List.countP_congr fun s hs => ?_
      have q0 := fW_pos (W := W) (s := s) w0
      obtain ⟨e, he⟩ := bs r hr s hs
      have e0 : 0 < e := by
        rcases Int.lt_or_le 0 e with z | z
        · exact z
        · have := Int.mul_le_mul_of_nonneg_left z (show 0 ≤ (fW W s).2 by omega)
          rw [Int.mul_zero, ← he] at this
          omega
      have hp : prt W (botF W rows) s = (fW W s).1 * e := by
        unfold prt
        rw [he, Int.mul_ediv_cancel_left _ (by omega)]
      show decide (0 < prt W (botF W rows) s) = true ↔ decide (0 < (fW W s).1) = true
      rw [decide_eq_true_iff, decide_eq_true_iff, hp]
      constructor
      · intro z
        rcases Int.lt_or_le 0 (fW W s).1 with y | y
        · exact y
        · have := Int.mul_le_mul_of_nonneg_right y (show 0 ≤ e by omega)
          omega
      · exact fun z => Int.mul_pos z e0
    unfold meas at h1
    rw [h3, h4] at h1
    omega
end
end K35
namespace K35
open PySem L2 Fra
section
variable {P : Program} {w : World} {K : PySem.W.Frag} {mg : Str → Option Value} {base : Heap}
abbrev s__law_cell_at : Stmt := top 32
theorem sc__law_cell_at : FnScope ["_law_script", "_law_k"] ["_law_script", "_law_k"] (defScope s__law_cell_at) := ⟨rfl, rfl, rfl, by decide +kernel, rfl, by decide +kernel, by decide +kernel⟩
def rCell (dd : List Dv) (t : Tr) : Prop := ∃ (ns : List Int) (k : Int), 0 ≤ k ∧ dd = [dis ns, di k] ∧ t = ti (cellF ns k)
theorem ok__law_cell_at {f : Addr} {fd : FuncData} {k : Nat} (F : Fun K "_law_cell_at" "_law_cell_at" s__law_cell_at f fd) (T : Txt mg) : FnOk P w K mg base CX0 (k + 1) f fd ["_law_script", "_law_k"] (spT K rCell) := by
  refine fn_ok F.d sc__law_cell_at (fun dd t h => by obtain ⟨_, _, _, rfl, _⟩ := h; rfl) fun dd t h => ?_
  obtain ⟨ns, j, hj, rfl, rfl⟩ := h
  refine ⟨_, .inl rfl, ?_⟩
  by_cases hl : j < ns.length
  · refine rns_ret (rn_ifT (Et.s (et_lt (ev_nm 1 rfl) (ev_len T.b_len (ev_nm 0 rfl) (.inl rfl)))) ?_ (rns_one (rn_ret (Ev.s (ev_ix (ev_nm 0 rfl) (ev_nm 1 rfl) rfl ?_)))))
    · rw [List.length_map]; exact decide_eq_true hl
    · exact cell_in hj hl
  · refine rns_cons (rn_skip (Et.s (et_lt (ev_nm 1 rfl) (ev_len T.b_len (ev_nm 0 rfl) (.inl rfl)))) ?_) ?_
    · rw [List.length_map]; exact decide_eq_false hl
    · rw [cell_out hj (by omega)]
      exact rns_one (rn_ret (Ev.s ev_int))
theorem nums_di (n : Nat) : rngD 0 n = (numsF n).map di := by
  unfold rngD numsF
  rw [List.map_map]; rfl
theorem nums_succ (k : Nat) : numsF (k + 1) = numsF k ++ [0 + (k : Int)] := by
  unfold numsF
  rw [List.range_succ, List.map_append]; rfl
def pick4 (x : Int) : Int := lat [x / 4 % 4, x / 4 % 4, x / 4 % 2, x / 4 % 10] (x % 4)
theorem pick4_ok (x : Int) : 0 ≤ pick4 x ∧ pick4 x ≤ 9 := by
  have h := lat_mem (l := [x / 4 % 4, x / 4 % 4, x / 4 % 2, x / 4 % 10]) (x := x % 4) (Int.emod_nonneg _ (by decide)) (Int.emod_lt_of_pos _ (by decide))
  have : ∀ y ∈ [x / 4 % 4, x / 4 % 4, x / 4 % 2, x / 4 % 10], 0 ≤ y ∧ y ≤ 9 := fun y hy => by
    simp only [List.mem_cons, List.not_mem_nil, or_false] at hy
    rcases hy with rfl | rfl | rfl | rfl <;> omega
  exact this _ h
abbrev s__law_counts : Stmt := top 34
theorem sc__law_counts : FnScope ["_law_script", "_law_many", "_law_counts_here", "_law_k", "_law_cell"] ["_law_script", "_law_many"] (defScope s__law_counts) := ⟨rfl, rfl, rfl, by decide +kernel, rfl, by decide +kernel, by decide +kernel⟩
def cntS (ns : List Int) (n : Nat) : List Int := (numsF n).map fun k => pick4 (cellF ns (2 + k))
def rCounts (dd : List Dv) (t : Tr) : Prop := ∃ (ns : List Int) (n : Nat), n ≤ 6 ∧ dd = [dis ns, di n] ∧ t = tInts (cntS ns n)
theorem ok__law_counts {f f1 : Addr} {fd fd1 : FuncData} {k : Nat} (F : Fun K "_law_counts" "_law_counts" s__law_counts f fd) (T : Txt mg) (K__law_cell_at : Kn P w K mg base CX0 (k + 1) "_law_cell_at" f1 fd1 ["_law_script", "_law_k"] (spT K rCell)) : FnOk P w K mg base CX0 (k + 2) f fd ["_law_script", "_law_many"] (spT K rCounts) := by
  refine fn_ok F.d sc__law_counts (fun dd t h => by obtain ⟨_, _, _, rfl, _⟩ := h; rfl) fun dd t h => ?_
  obtain ⟨ns, n, hn, rfl, rfl⟩ := h
  refine ⟨_, .inl rfl, ?_⟩
  have big : 1000 < sizeLine := by decide
  refine rns_cons (rn_set 2 (Ev.s (ev_lst eva_nil (Nat.zero_le _))) (fun _ => sc__law_counts.nd)) ?_
  refine rns_cons (rn_for (its := rngD 0 n) (EvI.s (EvI.to (evi_range1 (n := ((n : Nat) : Int)) T.b_range (ev_nm 1 rfl) ⟨by omega, by omega⟩) (by rw [Int.toNat_natCast]))) (evg_nm 3 (fun _ => sc__law_counts.nd)) (fun k => [some (.fz (dis ns)), some (ti (n : Nat)), some (tInts ((numsF k).map fun k => pick4 (cellF ns (2 + k)))), none, none]) rfl (fun _ => rfl) (fun j d hd => ?_)) ?_
  · obtain ⟨hj, rfl⟩ := rng_get hd
    refine ⟨_, _, rfl, rns_cons (rn_set 4 (Ev.s (ev_call K__law_cell_at (Nat.le_refl _) (eva_cons (ev_nm 0 rfl) (eva_cons (ev_add ev_int (ev_nm 3 rfl)) eva_nil)) ⟨ns, _, by omega, rfl, rfl⟩)) (fun _ => sc__law_counts.nd))
      (rns_one (rn_append 2 rfl (Ev.s (ev_ix (d := di (pick4 (cellF ns (2 + (0 + (j : Int)))))) (ev_lst (eva_cons (ev_mod (ev_div (ev_nm 4 rfl) ev_int ⟨by decide, small_lt (by decide) (by decide)⟩) ev_int (by decide)) (eva_cons (ev_mod (ev_div (ev_nm 4 rfl) ev_int ⟨by decide, small_lt (by decide) (by decide)⟩) ev_int (by decide)) (eva_cons (ev_mod (ev_div (ev_nm 4 rfl) ev_int ⟨by decide, small_lt (by decide) (by decide)⟩) ev_int (by decide)) (eva_cons (ev_mod (ev_div (ev_nm 4 rfl) ev_int ⟨by decide, small_lt (by decide) (by decide)⟩) ev_int (by decide)) eva_nil)))) (by show 4 ≤ sizeLine; decide)) (ev_mod (ev_nm 4 rfl) ev_int (by decide)) rfl ?_)) ?_)), [3, 4], ?_⟩
    · exact lat_at (l := [_, _, _, _]) di (Int.emod_nonneg _ (by decide)) (Int.emod_lt_of_pos _ (by decide))
    · rw [List.length_map, List.length_map, nums_len]; omega
    · show [_, _, some (Tr.ow (_ ++ [_])), _, _] = [_, _, some (Tr.ow _), _, _]
      rw [nums_succ, List.map_append, List.map_append]; rfl
  rw [show (rngD 0 n).length = n by unfold rngD; rw [List.length_map, List.length_range]]
  exact rns_one (rn_retO 2 rfl)
theorem cntS_len (ns : List Int) (n : Nat) : (cntS ns n).length = n := by unfold cntS; rw [List.length_map, nums_len]
theorem cntS_ok (ns : List Int) (n : Nat) : ∀ x ∈ cntS ns n, 0 ≤ x ∧ x ≤ 9 := fun x hx => by
  obtain ⟨k, _, rfl⟩ := List.mem_map.mp hx
  exact pick4_ok _
def plT (n : Nat) (cell : Int) (left : List Int) : Int := if (decide (cell % ((n : Int) + 1) < n) && decide (lat left (cell % ((n : Int) + 1)) = 0)) = true then (n : Int) else cell % ((n : Int) + 1)
def plL (n : Nat) (th : Int) (left : List Int) : List Int := if decide (th < n) = true then left.set th.toNat (lat left th - 1) else left
def plS (cs c : List Int) : Nat → List Int × List Int
  | 0 => (c, [])
  | k + 1 => (plL c.length (plT c.length (cs.getD k 0) (plS cs c k).1) (plS cs c k).1, (plS cs c k).2 ++ [plT c.length (cs.getD k 0) (plS cs c k).1])
structure PlOk (c left d : List Int) : Prop where
  ll : left.length = c.length
  bal : ∀ k : Int, 0 ≤ k → k < c.length → lat left k + (d.count k : Int) = lat c k ∧ 0 ≤ lat left k
  rg : ∀ x ∈ d, 0 ≤ x ∧ x ≤ c.length
theorem plT_ok (n : Nat) (cell : Int) (left : List Int) : (0 ≤ plT n cell left ∧ plT n cell left ≤ n) ∧ (plT n cell left < n → lat left (plT n cell left) ≠ 0) := by
  have m0 := Int.emod_nonneg cell (show (n : Int) + 1 ≠ 0 by omega)
  have m1 := Int.emod_lt_of_pos cell (show (0 : Int) < (n : Int) + 1 by omega)
  unfold plT
  by_cases h : (decide (cell % ((n : Int) + 1) < n) && decide (lat left (cell % ((n : Int) + 1)) = 0)) = true
  · rw [if_pos h]
    exact ⟨by omega, fun z => absurd z (by omega)⟩
  · rw [if_neg h]
    refine ⟨by omega, fun z e => h ?_⟩
    rw [Bool.and_eq_true]
    exact ⟨decide_eq_true z, decide_eq_true e⟩
theorem PlOk.step {c left d : List Int} (h : PlOk c left d) (cell : Int) : PlOk c (plL c.length (plT c.length cell left) left) (d ++ [plT c.length cell left]) := by
  obtain ⟨⟨t0, t1⟩, tn⟩ := plT_ok c.length cell left
  generalize plT c.length cell left = th at t0 t1 tn
  unfold plL
  by_cases hl : th < c.length
  · rw [if_pos (decide_eq_true hl)]
    have hb := h.bal th t0 hl
    have hne := tn hl
    refine ⟨by rw [List.length_set]; exact h.ll, fun k k0 k1 => ?_, fun x hx => ?_⟩
    · have hk := h.bal k k0 k1
      rw [lat_set t0 k0 (by rw [h.ll]; exact k1), List.count_append, List.count_singleton]
      by_cases e : th = k
      · subst e
        rw [if_pos rfl, if_pos (by simp)]
        omega
      · rw [if_neg e, if_neg (by simpa using e)]
        omega
    · rcases List.mem_append.mp hx with z | z
      · exact h.rg x z
      · rw [List.mem_singleton.mp z]; omega
  · rw [if_neg (by rw [decide_eq_false hl]; decide)]
    refine ⟨h.ll, fun k k0 k1 => ?_, fun x hx => ?_⟩
    · have hk := h.bal k k0 k1
      rw [List.count_append, List.count_singleton, if_neg (show ¬ (th == k) = true by simp; omega)]
      omega
    · rcases List.mem_append.mp hx with z | z
      · exact h.rg x z
      · rw [List.mem_singleton.mp z]; omega
theorem plS_ok {cs c : List Int} (c0 : ∀ x ∈ c, 0 ≤ x) : ∀ k, PlOk c (plS cs c k).1 (plS cs c k).2
  | 0 => ⟨rfl, fun k k0 k1 => ⟨by show lat c k + 0 = _; omega, c0 _ (lat_mem k0 k1)⟩, fun _ z => nomatch z⟩
  | k + 1 => (plS_ok c0 k).step _
theorem plS_len (cs c : List Int) : ∀ k, (plS cs c k).2.length = k
  | 0 => rfl
  | k + 1 => by
    show ((plS cs c k).2 ++ [_]).length = _
    rw [List.length_append, plS_len cs c k]; rfl
def dealP (cs c : List Int) : List Int := (plS cs c cs.length).2
abbrev s__law_deal : Stmt := top 35
theorem sc__law_deal : FnScope ["_law_cells", "_law_counts_here", "_law_left", "_law_deal_here", "_law_cell", "_law_thing"] ["_law_cells", "_law_counts_here"] (defScope s__law_deal) := ⟨rfl, rfl, rfl, by decide +kernel, rfl, by decide +kernel, by decide +kernel⟩
def rDealP (dd : List Dv) (t : Tr) : Prop := ∃ (cs c : List Int), c.length ≤ 6 ∧ cs.length ≤ 6 ∧ (∀ x ∈ c, 0 ≤ x) ∧ dd = [dis cs, dis c] ∧ t = tInts (dealP cs c)
theorem ok__law_deal {f : Addr} {fd : FuncData} {k : Nat} (F : Fun K "_law_deal" "_law_deal" s__law_deal f fd) (T : Txt mg) : FnOk P w K mg base CX0 (k + 1) f fd ["_law_cells", "_law_counts_here"] (spT K rDealP) := by
  refine fn_ok F.d sc__law_deal (fun dd t h => by obtain ⟨_, _, _, _, _, rfl, _⟩ := h; rfl) fun dd t h => ?_
  obtain ⟨cs, c, n6, A6, c0, rfl, rfl⟩ := h
  refine ⟨_, .inl rfl, ?_⟩
  have big : 1000 < sizeLine := by decide
  have el : ∀ {α : Type} (g : α → Dv) (l : List α), ((l.map g).length : Int) = l.length := fun g l => by rw [List.length_map]
  refine rns_cons (rn_set 2 (EvS.to (t' := tInts c) (Ev.s (ev_list T.b_list (ev_nm 1 rfl) (.inl rfl))) (by rw [ints_tr])) (fun _ => sc__law_deal.nd)) ?_
  refine rns_cons (rn_set 3 (Ev.s (ev_lst eva_nil (Nat.zero_le _))) (fun _ => sc__law_deal.nd)) ?_
  refine rns_cons (rn_for (EvI.s (evi_list (ev_nm 0 rfl) rfl)) (evg_nm 4 (fun _ => sc__law_deal.nd)) (fun k => [some (.fz (dis cs)), some (.fz (dis c)), some (tInts (plS cs c k).1), some (tInts (plS cs c k).2), none, none]) rfl (fun _ => rfl) (fun j d hd => ?_)) ?_
  · obtain ⟨cell, hcell, rfl⟩ := map_get hd
    have ok := plS_ok (cs := cs) c0 j
    have dlen := plS_len cs c j
    have hj := (List.getElem?_eq_some_iff.mp hcell).1
    have e : plS cs c (j + 1) = (plL c.length (plT c.length (cs.getD j 0) (plS cs c j).1) (plS cs c j).1, (plS cs c j).2 ++ [plT c.length (cs.getD j 0) (plS cs c j).1]) := rfl
    rw [e, show cs.getD j 0 = cell by rw [List.getD_eq_getElem?_getD, hcell]; rfl]
    generalize plS cs c j = s at ok dlen
    obtain ⟨left, dl⟩ := s
    simp only at ok dlen ⊢
    have m0 := Int.emod_nonneg cell (show (c.length : Int) + 1 ≠ 0 by omega)
    obtain ⟨⟨t0, t1⟩, _⟩ := plT_ok c.length cell left
    refine ⟨_, [some (.fz (dis cs)), some (.fz (dis c)), some (tInts (plL c.length (plT c.length cell left) left)), some (tInts (dl ++ [plT c.length cell left])), none, none], rfl, ?_, ⟨[], rfl⟩⟩
    refine rns_cons (rn_set 5 (EvS.to (t' := ti (cell % ((c.length : Int) + 1))) (Ev.s (ev_mod (ev_nm 4 rfl) (ev_add (ev_len T.b_len (ev_nm 1 rfl) (.inl rfl)) ev_int) (by rw [el]; omega))) (by rw [el])) (fun _ => sc__law_deal.nd)) ?_
    show Rns _ _ [some (.fz (dis cs)), some (.fz (dis c)), some (tInts left), some (tInts dl), some (ti cell), some (ti (cell % ((c.length : Int) + 1)))] _
    refine rns_cons (ρ1 := [some (.fz (dis cs)), some (.fz (dis c)), some (tInts left), some (tInts dl), some (ti cell), some (ti (plT c.length cell left))]) (rn_if (EtS.to (q := decide (cell % ((c.length : Int) + 1) < c.length) && decide (lat left (cell % ((c.length : Int) + 1)) = 0)) (Et.pk (Ew.et (ew_and (et_lt (ev_nm 5 rfl) (Ev.to (t' := ti c.length) (ev_len T.b_len (ev_nm 1 rfl) (.inl rfl)) (by rw [el]))) fun hp => (ew_and1 (et_eq (ev_ix (d := di (lat left (cell % ((c.length : Int) + 1)))) (ev_nm 2 rfl) (ev_nm 5 rfl) (er_tInts left) (lat_at di m0 (by rw [ok.ll]; exact of_decide_eq_true hp))) ev_int))))) rfl) (fun h => ?_) (fun h => ?_)) ?_
    · refine Rns.to (rns_one (rn_set 5 (Ev.s (ev_len T.b_len (ev_nm 1 rfl) (.inl rfl))) (fun _ => sc__law_deal.nd))) ?_
      show Out.nx [_, _, _, _, _, some (ti _)] = _
      rw [el]
      unfold plT
      rw [if_pos h]
    · refine Rns.to rns_nil ?_
      unfold plT
      rw [if_neg (by rw [h]; decide)]
    generalize plT c.length cell left = th at t0 t1
    refine rns_cons (ρ1 := [some (.fz (dis cs)), some (.fz (dis c)), some (tInts (plL c.length th left)), some (tInts dl), some (ti cell), some (ti th)]) (rn_if (Et.s (et_lt (ev_nm 5 rfl) (Ev.to (t' := ti c.length) (ev_len T.b_len (ev_nm 1 rfl) (.inl rfl)) (by rw [el])))) (fun h => ?_) (fun h => ?_)) ?_
    · have hlt := of_decide_eq_true h
      refine Rns.to (rns_one (rn_ixset 2 (n := th) (m := th.toNat) rfl (Ev.s (ev_nm 5 rfl)) (by rw [List.length_map, ok.ll]; unfold ixN; rw [if_pos t0, if_pos hlt]) (Ev.pk (ev_sub (ev_ix (d := di (lat left th)) (ev_nm 2 rfl) (ev_nm 5 rfl) (er_tInts left) (lat_at di t0 (by rw [ok.ll]; exact hlt))) ev_int) True.intro) (hps := fun i => pg_sub (pv 2) (uE_ok i) set_list))) ?_
      show Out.nx [_, _, some (Tr.ow (List.set _ _ _)), _, _, _] = _
      unfold plL
      rw [if_pos h]
      show _ = Out.nx [_, _, some (Tr.ow (List.map _ _)), _, _, _]
      rw [List.map_set]
    · refine Rns.to rns_nil ?_
      unfold plL
      rw [if_neg (by rw [h]; decide)]
    refine rns_cons (rn_append 3 rfl (Ev.s (ev_nm 5 rfl)) (by rw [List.length_map]; omega)) (Rns.to (rns_nilF (ρ2 := [some (.fz (dis cs)), some (.fz (dis c)), some (tInts (plL c.length th left)), some (.ow ((dl.map fun n => .fz (di n)) ++ [.fz (di th)])), none, none]) ⟨[4, 5], rfl⟩) ?_)
    show _ = Out.nx [_, _, _, some (Tr.ow (List.map _ _)), _, _]
    rw [List.map_append]; rfl
  rw [show (cs.map di).length = cs.length from List.length_map _]
  exact rns_one (rn_retO 3 rfl)
theorem dealP_ok {cs c : List Int} (n6 : c.length ≤ 6) (c9 : ∀ x ∈ c, 0 ≤ x ∧ x ≤ 9) (ne : cs ≠ []) (A6 : cs.length ≤ 6) : D01 c (dealP cs c) := by
  have pl := plS_ok (cs := cs) (fun x hx => (c9 x hx).1) cs.length
  have l := plS_len cs c cs.length
  refine ⟨n6, c9, fun z => ne ?_, by show (plS cs c cs.length).2.length ≤ 6; omega, pl.rg, fun k k0 k1 => ?_⟩
  · have : (dealP cs c).length = 0 := by rw [z]; rfl
    exact List.length_eq_zero_iff.mp (by rw [← l]; exact this)
  · have := pl.bal k k0 k1
    show ((plS cs c cs.length).2.count k : Int) ≤ _
    omega
abbrev s__law_whole : Stmt := top 38
theorem sc__law_whole : FnScope ["_law_found"] ["_law_found"] (defScope s__law_whole) := ⟨rfl, rfl, rfl, by decide +kernel, rfl, by decide +kernel, by decide +kernel⟩
def rWhole (dd : List Dv) (t : Tr) : Prop := ∃ n : Int, dd = [di n] ∧ t = tb true
theorem ok__law_whole {f : Addr} {fd : FuncData} {k : Nat} (F : Fun K "_law_whole" "_law_whole" s__law_whole f fd) (T : Txt mg) : FnOk P w K mg base CX0 (k + 1) f fd ["_law_found"] (spT K rWhole) := by
  refine fn_ok F.d sc__law_whole (fun dd t h => by obtain ⟨n, rfl, _⟩ := h; rfl) fun dd t h => ?_
  obtain ⟨n, rfl, rfl⟩ := h
  refine ⟨_, .inl rfl, ?_⟩
  exact rns_one (rn_ret (Ev.s (Ev.to (ev_and (p := true) (q := true) (ev_isi T.b_isinstance T.b_int bt_int (ev_nm 0 rfl) (by with_unfolding_all rfl)) fun _ => (ev_one (ev_not (p := false) (ev_isi T.b_isinstance T.b_bool bt_bool (ev_nm 0 rfl) (by with_unfolding_all rfl))))) rfl)))
abbrev s__law_divisor : Stmt := top 33
theorem sc__law_divisor : FnScope ["_law_one", "_law_other"] ["_law_one", "_law_other"] (defScope s__law_divisor) := ⟨rfl, rfl, rfl, by decide +kernel, rfl, by decide +kernel, by decide +kernel⟩
def rDivisor (dd : List Dv) (t : Tr) : Prop := ∃ a b : Int, 0 ≤ a ∧ 0 ≤ b ∧ dd = [di a, di b] ∧ t = ti (gc a b)
theorem ok__law_divisor {f : Addr} {fd : FuncData} {k : Nat} (F : Fun K "_law_divisor" "_law_divisor" s__law_divisor f fd) (T : Txt mg) : FnOk P w K mg base CX0 (k + 1) f fd ["_law_one", "_law_other"] (spT K rDivisor) := by
  refine fn_ok F.d sc__law_divisor (fun dd t h => by obtain ⟨_, _, _, _, rfl, _⟩ := h; rfl) fun dd t h => ?_
  obtain ⟨a, b, ha, hb, rfl, rfl⟩ := h
  refine ⟨_, .inl rfl, ?_⟩
  refine rns_while_by (fun p : Int × Int => [some (ti p.1), some (ti p.2)]) (fun p => 0 ≤ p.1 ∧ 0 ≤ p.2 ∧ gc p.1 p.2 = gc a b) (fun p => decide (0 < p.2)) (fun p => p.2.toNat) (a, b) rfl ⟨ha, hb, rfl⟩ (fun p hp => Et.s (et_gt (ev_nm 1 rfl) ev_int)) (fun p hp h => ?_) (fun p hp h => ?_)
  · obtain ⟨x, y⟩ := p
    obtain ⟨h1, h2, h3⟩ := hp
    have hy : 0 < y := by simpa using h
    have l1 := Int.emod_lt_of_pos x hy
    have l2 := Int.emod_nonneg x (show y ≠ 0 by omega)
    refine ⟨(y, x % y), ⟨h2, l2, ?_⟩, ?_, rns_one (rn_par 0 1 (Ev.s (ev_nm 1 rfl)) (Ev.s (ev_mod (ev_nm 0 rfl) (ev_nm 1 rfl) hy)) (fun _ => sc__law_divisor.nd))⟩
    · show gc y (x % y) = _
      rw [gc_step]; exact h3
    · show (x % y).toNat < y.toNat
      omega
  · obtain ⟨x, y⟩ := p
    obtain ⟨h1, h2, h3⟩ := hp
    have hy0 : y = 0 := by
      have q : ¬ (0 < y) := by simpa using h
      have : 0 ≤ y := h2
      omega
    have h3' : gc x y = gc a b := h3
    have h1' : 0 ≤ x := h1
    have e : gc a b = x := by rw [← h3', hy0, gc_zero]; omega
    rw [e]
    exact rns_one (rn_ret (Ev.s (ev_nm 0 rfl)))
end
end K35
namespace K35
open PySem L2 Fra
section
variable {P : Program} {w : World} {K : PySem.W.Frag} {mg : Str → Option Value} {base : Heap}
theorem sum_if (x : Int) : ∀ l : List Int, (l.map fun t => if t = x then (1 : Int) else 0).sum = l.count x
  | [] => rfl
  | t :: l => by
    rw [List.map_cons, List.sum_cons, sum_if x l, List.count_cons]
    by_cases e : t = x
    · rw [if_pos e, if_pos (by simpa using e)]; omega
    · rw [if_neg e, if_neg (by simpa using e)]; omega
theorem count_nums {n : Nat} {x : Int} (x0 : 0 ≤ x) (x1 : x < n) : (numsF n).count x = 1 := by
  have h1 : 0 < (numsF n).count x := List.count_pos_iff.mpr (mem_nums.mpr ⟨x0, x1⟩)
  have h2 : (numsF n).count x ≤ 1 := List.nodup_iff_count.mp (nums_nodup n) x
  omega
theorem sum_ifw (y w : Int) (l : List Int) : (l.map fun x => if x = y then w else 0).sum = l.count y * w := by
  rw [← sum_if, ← sum_mulR]
  congr 1
  refine List.map_congr_left fun x _ => ?_
  by_cases e : x = y
  · rw [if_pos e, if_pos e]; omega
  · rw [if_neg e, if_neg e]; omega
theorem sum_pick {n : Nat} {y w : Int} (y0 : 0 ≤ y) (y1 : y ≤ n) : ((numsF (n + 1)).map fun x => if y = x then w else 0).sum = w := by
  have e : ((numsF (n + 1)).map fun x => if y = x then w else 0) = (numsF (n + 1)).map fun x => if x = y then w else 0 := List.map_congr_left fun x _ => by
    by_cases e : y = x
    · rw [if_pos e, if_pos e.symm]
    · rw [if_neg e, if_neg fun z => e z.symm]
  rw [e, sum_ifw, count_nums y0 (by omega)]
  show 1 * w = w
  omega
structure MOk (c : List Int) (A : Nat) (M : List (Int × List Int)) : Prop where
  p : ∀ m ∈ M, 1 ≤ m.1
  l : ∀ m ∈ M, m.2.length = A
  r : ∀ m ∈ M, ∀ x ∈ m.2, 0 ≤ x ∧ x ≤ c.length
  k : ∀ m ∈ M, ∀ k : Int, 0 ≤ k → k < c.length → (m.2.count k : Int) ≤ lat c k
theorem MOk.tail {c : List Int} {A : Nat} {m : Int × List Int} {M : List (Int × List Int)} (h : MOk c A (m :: M)) : MOk c A M := ⟨fun x hx => h.p x (.tail _ hx), fun x hx => h.l x (.tail _ hx), fun x hx => h.r x (.tail _ hx), fun x hx => h.k x (.tail _ hx)⟩
abbrev totF (M : List (Int × List Int)) : Int := (M.map (·.1)).sum
theorem wt_le {c : List Int} {A : Nat} : ∀ {M : List (Int × List Int)}, MOk c A M → ∀ a x : Int, 0 ≤ wtF M a x ∧ wtF M a x ≤ totF M
  | [], _, _, _ => ⟨Int.le_refl _, Int.le_refl _⟩
  | m :: M, h, a, x => by
    have ih := wt_le h.tail a x
    have h1 := h.p m (.head _)
    have e : totF (m :: M) = m.1 + totF M := by show ((m :: M).map (·.1)).sum = _; rw [List.map_cons, List.sum_cons]
    rw [wtF_cons, e]
    split <;> omega
theorem wt_row {c : List Int} {A : Nat} {a : Int} (a0 : 0 ≤ a) (a1 : a < A) : ∀ {M : List (Int × List Int)}, MOk c A M → ((numsF (c.length + 1)).map (wtF M a)).sum = totF M
  | [], _ => by
    show ((numsF (c.length + 1)).map fun _ => (0 : Int)).sum = 0
    exact sum_zero _
  | m :: M, h => by
    have ih := wt_row a0 a1 h.tail
    have hr := h.r m (.head _) _ (lat_mem a0 (by rw [h.l m (.head _)]; exact a1))
    have e : totF (m :: M) = m.1 + totF M := by show ((m :: M).map (·.1)).sum = _; rw [List.map_cons, List.sum_cons]
    rw [show wtF (m :: M) a = fun x => (if lat m.2 a = x then m.1 else 0) + wtF M a x from funext fun x => wtF_cons m M a x, sum_add, sum_pick hr.1 hr.2, e]
    exact congrArg (m.1 + ·) ih
theorem wt_col {c : List Int} {A : Nat} {k : Int} (k0 : 0 ≤ k) (k1 : k < c.length) : ∀ {M : List (Int × List Int)}, MOk c A M → ((numsF A).map fun a => wtF M a k).sum ≤ lat c k * totF M
  | [], _ => by
    show ((numsF A).map fun _ => (0 : Int)).sum ≤ lat c k * 0
    rw [sum_zero, Int.mul_zero]; exact Int.le_refl _
  | m :: M, h => by
    have ih := wt_col k0 k1 h.tail
    have hk := h.k m (.head _) k k0 k1
    have hl := h.l m (.head _)
    have hp := h.p m (.head _)
    have e : totF (m :: M) = m.1 + totF M := by show ((m :: M).map (·.1)).sum = _; rw [List.map_cons, List.sum_cons]
    have e1 : ((numsF A).map fun a => if lat m.2 a = k then m.1 else 0).sum = m.2.count k * m.1 := by
      rw [← sum_ifw k m.1 m.2]
      have hd := map_nums m.2 0
      rw [hl] at hd
      have : (m.2.map fun x => if x = k then m.1 else 0) = ((numsF A).map fun a => m.2.getD a.toNat 0).map fun x => if x = k then m.1 else 0 := by rw [← hd]
      rw [this, List.map_map]; rfl
    rw [show (fun a => wtF (m :: M) a k) = fun a => (if lat m.2 a = k then m.1 else 0) + wtF M a k from funext fun a => wtF_cons m M a k, sum_add, e1, e, Int.mul_add]
    have := Int.mul_le_mul_of_nonneg_right hk (show 0 ≤ m.1 by omega)
    omega
def rows35 (A n : Nat) (M : List (Int × List Int)) : List (List Int) := (numsF A).map fun a => (numsF (n + 1)).map (wtF M a)
theorem MOk.mi {c : List Int} {A : Nat} {M : List (Int × List Int)} (h : MOk c A M) (n6 : c.length ≤ 6) (c9 : ∀ x ∈ c, 0 ≤ x ∧ x ≤ 9) (A1 : 1 ≤ A) (A6 : A ≤ 6) (w0 : 0 < totF M) (w1 : totF M < 2 ^ 70) : MixIn (totF M) c (rows35 A c.length M) := by
  have rl : (rows35 A c.length M).length = A := by unfold rows35; rw [List.length_map, nums_len]
  refine ⟨⟨w0, w1, by omega, fun r hr => ?_⟩, n6, c9, fun z => by rw [z] at rl; simp at rl; omega, by omega, ?_⟩
  · obtain ⟨a, ha, rfl⟩ := List.mem_map.mp hr
    refine ⟨by rw [List.length_map, nums_len]; omega, fun s hs => ?_⟩
    obtain ⟨x, _, rfl⟩ := List.mem_map.mp hs
    have := wt_le h a x
    omega
  · unfold areB
    rw [Bool.and_eq_true]
    refine ⟨List.all_eq_true.mpr fun r hr => ?_, List.all_eq_true.mpr fun k hk => ?_⟩
    · obtain ⟨a, ha, rfl⟩ := List.mem_map.mp hr
      have ha' := mem_nums.mp ha
      unfold rowB
      rw [Bool.and_eq_true, Bool.and_eq_true]
      refine ⟨decide_eq_true (by rw [List.length_map, nums_len]), List.all_eq_true.mpr fun s hs => ?_, decide_eq_true (wt_row ha'.1 ha'.2 h)⟩
      obtain ⟨x, _, rfl⟩ := List.mem_map.mp hs
      exact decide_eq_true (wt_le h a x).1
    · have hk' := mem_nums.mp hk
      refine decide_eq_true ?_
      have e : colF (rows35 A c.length M) k = (numsF A).map fun a => wtF M a k := by
        unfold colF rows35
        rw [List.map_map]
        refine List.map_congr_left fun a _ => ?_
        show ((numsF (c.length + 1)).map (wtF M a)).getD k.toNat 0 = _
        rw [List.getD_eq_getElem?_getD, List.getElem?_map, nums_get hk'.1 (by omega)]; rfl
      rw [e]
      exact wt_col hk'.1 hk'.2 h
theorem mod4c (c : Int) : c % 4 = 0 ∨ c % 4 = 1 ∨ c % 4 = 2 ∨ c % 4 = 3 := by omega
def sel35 (c : Int) : Int := if c % 4 = 0 then 10 ^ 6 else if c % 4 = 1 then 9 else if c % 4 = 2 then 1 else 10 ^ 20
theorem sel35_pos (c : Int) : 0 < sel35 c ∧ sel35 c ≤ 10 ^ 20 := by unfold sel35; split; decide; split; decide; split <;> decide
def ck35 (ns : List Int) (k : Int) : Int := cellF ns 1 / (k + 1) + cellF ns (13 + 6 * k)
def pt35 (ns : List Int) (k : Int) : Int := 1 + ck35 ns k / 4 % sel35 (ck35 ns k)
def dk35 (ns c : List Int) (A : Nat) (k : Int) : List Int := dealP ((numsF A).map fun j => cellF ns (8 + 6 * k + j)) c
def m35 (A : Nat) : Int := if 3 < (A : Int) then 3 else 8
def n35 (ns : List Int) (A : Nat) : Nat := (2 + cellF ns 1 / 9 % m35 A).toNat
def M35 (ns c : List Int) (A : Nat) : List (Int × List Int) := (numsF (n35 ns A)).map fun k => (pt35 ns k, dk35 ns c A k)
theorem n35_ok (ns : List Int) (A : Nat) : 2 ≤ n35 ns A ∧ n35 ns A ≤ 9 ∧ 2 + cellF ns 1 / 9 % m35 A = n35 ns A ∧ 0 < m35 A := by
  have h : 0 < m35 A ∧ m35 A ≤ 8 := by unfold m35; split <;> omega
  have h1 := Int.emod_nonneg (cellF ns 1 / 9) (show m35 A ≠ 0 by omega)
  have h2 := Int.emod_lt_of_pos (cellF ns 1 / 9) h.1
  unfold n35
  omega
theorem pt35_ok (ns : List Int) (k : Int) : 1 ≤ pt35 ns k ∧ pt35 ns k ≤ 10 ^ 20 := by
  obtain ⟨h1, h2⟩ := sel35_pos (ck35 ns k)
  have a := Int.emod_nonneg (ck35 ns k / 4) (show sel35 (ck35 ns k) ≠ 0 by omega)
  have b := Int.emod_lt_of_pos (ck35 ns k / 4) h1
  unfold pt35
  constructor <;> omega
theorem M35_ok {ns c : List Int} {A : Nat} (n6 : c.length ≤ 6) (c9 : ∀ x ∈ c, 0 ≤ x ∧ x ≤ 9) (A1 : 1 ≤ A) (A6 : A ≤ 6) : MOk c A (M35 ns c A) ∧ 0 < totF (M35 ns c A) ∧ totF (M35 ns c A) < 2 ^ 70 := by
  have hd : ∀ k, D01 c (dk35 ns c A k) ∧ (dk35 ns c A k).length = A := fun k => by
    have cl : ((numsF A).map fun j => cellF ns (8 + 6 * k + j)).length = A := by rw [List.length_map, nums_len]
    refine ⟨dealP_ok n6 c9 (fun z => by rw [z] at cl; simp at cl; omega) (by omega), ?_⟩
    unfold dk35 dealP
    rw [plS_len, cl]
  have mk : MOk c A (M35 ns c A) := by
    refine ⟨fun m hm => ?_, fun m hm => ?_, fun m hm => ?_, fun m hm => ?_⟩ <;> obtain ⟨k, _, rfl⟩ := List.mem_map.mp hm
    · exact (pt35_ok ns k).1
    · exact (hd k).2
    · exact (hd k).1.dr
    · exact (hd k).1.cnt
  have tot : ∀ n : Nat, (n : Int) ≤ totF ((numsF n).map fun k => (pt35 ns k, dk35 ns c A k)) ∧ totF ((numsF n).map fun k => (pt35 ns k, dk35 ns c A k)) ≤ n * 10 ^ 20 := fun n => by
    induction n with
    | zero => exact ⟨Int.le_refl _, Int.le_refl _⟩
    | succ n ih =>
      have h := pt35_ok ns (0 + (n : Int))
      have e : totF ((numsF (n + 1)).map fun k => (pt35 ns k, dk35 ns c A k)) = totF ((numsF n).map fun k => (pt35 ns k, dk35 ns c A k)) + pt35 ns (0 + (n : Int)) := by
        unfold totF
        rw [nums_succ, List.map_append, List.map_append, List.sum_append]; simp
      rw [e]
      omega
  obtain ⟨h1, h2, _, _⟩ := n35_ok ns A
  have := tot (n35 ns A)
  refine ⟨mk, ?_, ?_⟩ <;> unfold M35 <;> omega
theorem zipD_M : ∀ M : List (Int × List Int), zipD ((M.map (·.1)).map di) ((M.map (·.2)).map dis) = M.map fun m => Dv.tup [di m.1, dis m.2]
  | [] => rfl
  | m :: M => by
    have ih := zipD_M M
    unfold zipD at ih ⊢
    rw [List.map_cons, List.map_cons, List.map_cons, List.map_cons, List.zipWith_cons_cons, ih, List.map_cons]
abbrev s__law_shares : Stmt := top 36
theorem sc__law_shares : FnScope ["_law_script", "_law_counts_here", "_law_askers", "_law_deals", "_law_parts", "_law_k", "_law_cell", "_law_total", "_law_shares_here", "_law_asker", "_law_row", "_law_thing", "_law_top", "_law_by"] ["_law_script", "_law_counts_here", "_law_askers"] (defScope s__law_shares) := ⟨rfl, rfl, rfl, by decide +kernel, rfl, by decide +kernel, by decide +kernel⟩
def rShares (dd : List Dv) (r : Tr) : Prop := ∃ (ns c : List Int) (A : Nat), c.length ≤ 6 ∧ (∀ x ∈ c, 0 ≤ x ∧ x ≤ 9) ∧ 1 ≤ A ∧ A ≤ 6 ∧ dd = [dis ns, dis c, di A] ∧ r = .fz (dSh (totF (M35 ns c A)) (rows35 A c.length (M35 ns c A)))
theorem ok__law_shares {f f1 f2 f3 : Addr} {fd fd1 fd2 fd3 : FuncData} {k : Nat} (F : Fun K "_law_shares" "_law_shares" s__law_shares f fd) (T : Txt mg) (K__law_cell_at : Kn P w K mg base CX0 (k + 1) "_law_cell_at" f1 fd1 ["_law_script", "_law_k"] (spT K rCell)) (K__law_deal : Kn P w K mg base CX0 (k + 1) "_law_deal" f2 fd2 ["_law_cells", "_law_counts_here"] (spT K rDealP)) (K__law_divisor : Kn P w K mg base CX0 (k + 1) "_law_divisor" f3 fd3 ["_law_one", "_law_other"] (spT K rDivisor)) : FnOk P w K mg base CX0 (k + 2) f fd ["_law_script", "_law_counts_here", "_law_askers"] (spT K rShares) := by
  refine fn_ok F.d sc__law_shares (fun dd t h => by obtain ⟨_, _, _, _, _, _, _, rfl, _⟩ := h; rfl) fun dd r h => ?_
  obtain ⟨ns, c, A, n6, c9, A1, A6, rfl, rfl⟩ := h
  refine ⟨_, .inl rfl, ?_⟩
  have big : 1000 < sizeLine := by decide
  have el : ∀ {α : Type} (g : α → Dv) (l : List α), ((l.map g).length : Int) = l.length := fun g l => by rw [List.length_map]
  have cd : ∀ i j : Int, 0 < j → j < 2 ^ 60 → CDivB i j := fun i j h1 h2 => ⟨h1, small_lt (by omega) h2⟩
  obtain ⟨h2, h9, hn, hm0⟩ := n35_ok ns A
  obtain ⟨mk, w0, w1'⟩ := M35_ok (ns := ns) n6 c9 A1 A6
  have W1 : Unit → totF (M35 ns c A) < 2 ^ 70 := fun _ => w1'
  clear w1'
  refine rns_cons (rn_set 3 (Ev.s (ev_lst eva_nil (Nat.zero_le _))) (fun _ => sc__law_shares.nd)) ?_
  refine rns_cons (rn_set 4 (Ev.s (ev_lst eva_nil (Nat.zero_le _))) (fun _ => sc__law_shares.nd)) ?_
  show Rns _ _ [some (.fz (dis ns)), some (.fz (dis c)), some (ti (A : Nat)), some (.ow []), some (.ow []), none, none, none, none, none, none, none, none, none] _
  have hat : atI ([8, 3].map di) (if decide (3 < (A : Int)) = true then 1 else 0) = some (di (m35 A)) := by
    unfold m35
    by_cases h : 3 < (A : Int)
    · rw [if_pos (decide_eq_true h), if_pos h]; rfl
    · rw [if_neg (by rw [decide_eq_false h]; decide), if_neg h]; rfl
  refine rns_cons (rn_for (its := rngD 0 (n35 ns A)) (EvI.s (EvI.to (evi_range1 (n := ((n35 ns A : Nat) : Int)) T.b_range (Ev.to (ev_add ev_int (ev_mod (ev_div (ev_call K__law_cell_at (Nat.le_refl _) (eva_cons (ev_nm 0 rfl) (eva_cons ev_int eva_nil)) ⟨ns, 1, by decide, rfl, rfl⟩) ev_int (cd _ _ (by decide) (by decide))) (ev_ix (d := di (m35 A)) (ev_lst (eva_cons ev_int (eva_cons ev_int eva_nil)) (by show 2 ≤ sizeLine; decide)) (ev_intb T.b_int (ev_gt (ev_nm 2 rfl) ev_int)) rfl hat) hm0)) (by rw [hn])) ⟨by omega, by omega⟩) (by rw [Int.toNat_natCast]))) (evg_nm 5 (fun _ => sc__law_shares.nd)) (fun j => [some (.fz (dis ns)), some (.fz (dis c)), some (ti (A : Nat)), some (tRows ((numsF j).map (dk35 ns c A))), some (tInts ((numsF j).map (pt35 ns))), none, none, none, none, none, none, none, none, none]) rfl (fun _ => rfl) (fun j dj hdj => ?_)) ?_
  · obtain ⟨hj, rfl⟩ := rng_get hdj
    obtain ⟨z, ez⟩ : ∃ z : Int, 0 + (j : Int) = z := ⟨_, rfl⟩
    have z0 : 0 ≤ z := by omega
    rw [nums_succ, ez, List.map_append, List.map_append]
    have l1 : ((numsF j).map (dk35 ns c A)).length = j := by rw [List.length_map, nums_len]
    have l2 : ((numsF j).map (pt35 ns)).length = j := by rw [List.length_map, nums_len]
    generalize (numsF j).map (dk35 ns c A) = ds at l1
    generalize (numsF j).map (pt35 ns) = ps at l2
    have sp := sel35_pos (ck35 ns z)
    have sat : atI ([10 ^ 6, 9, 1, 10 ^ 20].map di) (ck35 ns z % 4) = some (di (sel35 (ck35 ns z))) := by
      unfold sel35
      have := mod4c (ck35 ns z)
      rcases this with h | h | h | h <;> rw [h] <;> rfl
    refine ⟨_, [some (.fz (dis ns)), some (.fz (dis c)), some (ti (A : Nat)), some (tRows (ds ++ [dk35 ns c A z])), some (tInts (ps ++ [pt35 ns z])), none, none, none, none, none, none, none, none, none], rfl, ?_, ⟨[], rfl⟩⟩
    refine rns_cons (rn_append 3 rfl (EvS.to (t' := tInts (dk35 ns c A z)) (Ev.s (ev_call K__law_deal (Nat.le_refl _) (eva_cons (Ev.as (d := dis ((numsF A).map fun j => cellF ns (8 + 6 * z + j))) (ev_lcm (own := ["_law_j"]) (fr := [0, 5]) (numsF A) di (fun j => ti (cellF ns (8 + 6 * z + j))) (fun i => lcs ⟨rfl, rfl, by decide +kernel, by decide +kernel, by decide +kernel, by decide +kernel⟩) (EvI.to (evi_range1 (n := ((A : Nat) : Int)) T.b_range (ev_nm 2 rfl) ⟨by omega, by omega⟩) (by rw [Int.toNat_natCast, nums_di])) (evg_nm 0 (fun _ => by show List.Nodup (["_law_j", "_law_script", "_law_k"] : List Str); decide)) (by decide) (by rw [nums_len]; omega) (fun x hx => ⟨_, rfl, by
      have hx' := mem_nums.mp hx
      exact ev_call K__law_cell_at (Nat.le_refl _) (eva_cons (ev_nm 1 rfl) (eva_cons (ev_add (ev_add ev_int (ev_mulS ev_int (ev_nm 2 rfl) (.inl ⟨by decide, by decide⟩))) (ev_nm 0 rfl)) eva_nil)) ⟨ns, _, by omega, rfl, rfl⟩⟩) (fun dd => by cases dd <;> rfl)) (er_map _ _)) (eva_cons (ev_nm 1 rfl) eva_nil)) ⟨_, c, n6, by rw [List.length_map, nums_len]; exact A6, fun x hx => (c9 x hx).1, rfl, rfl⟩)) rfl) (by rw [List.length_map]; omega)) ?_
    refine rns_cons (rn_set 6 (EvS.to (t' := ti (ck35 ns z)) (Ev.s (ev_add (ev_div (ev_call K__law_cell_at (Nat.le_refl _) (eva_cons (ev_nm 0 rfl) (eva_cons ev_int eva_nil)) ⟨ns, 1, by decide, rfl, rfl⟩) (ev_add (ev_nm 5 rfl) ev_int) (cd _ _ (by omega) (by omega))) (ev_call K__law_cell_at (Nat.le_refl _) (eva_cons (ev_nm 0 rfl) (eva_cons (ev_add ev_int (ev_mulS ev_int (ev_nm 5 rfl) (.inl ⟨by decide, by decide⟩))) eva_nil)) ⟨ns, _, by omega, rfl, rfl⟩))) rfl) (fun _ => sc__law_shares.nd)) ?_
    refine rns_cons (rn_append 4 rfl (EvS.to (t' := ti (pt35 ns z)) (Ev.s (ev_add ev_int (ev_mod (ev_div (ev_nm 6 rfl) ev_int (cd _ _ (by decide) (by decide))) (ev_ix (ev_lst (eva_cons (ev_pow ev_int ev_int ⟨by decide, by decide, by decide⟩) (eva_cons ev_int (eva_cons ev_int (eva_cons (ev_pow ev_int ev_int ⟨by decide, by decide, by decide⟩) eva_nil)))) (by show 4 ≤ sizeLine; decide)) (ev_mod (ev_nm 6 rfl) ev_int (by decide)) rfl sat) sp.1))) rfl) (by rw [List.length_map]; omega)) (Rns.to (rns_nilF (ρ2 := [some (.fz (dis ns)), some (.fz (dis c)), some (ti (A : Nat)), some (.ow (ds.map tInts ++ [tInts (dk35 ns c A z)])), some (.ow ((ps.map fun n => .fz (di n)) ++ [.fz (di (pt35 ns z))])), none, none, none, none, none, none, none, none, none]) ⟨[5, 6], rfl⟩) ?_)
    show _ = Out.nx [_, _, _, some (Tr.ow (List.map _ _)), some (Tr.ow (List.map _ _)), _, _, _, _, _, _, _, _, _]
    rw [List.map_append, List.map_append]; rfl
  rw [show (rngD 0 (n35 ns A)).length = n35 ns A by unfold rngD; rw [List.length_map, List.length_range]]
  have ed : (numsF (n35 ns A)).map (dk35 ns c A) = (M35 ns c A).map (·.2) := by unfold M35; rw [List.map_map]; rfl
  have ep : (numsF (n35 ns A)).map (pt35 ns) = (M35 ns c A).map (·.1) := by unfold M35; rw [List.map_map]; rfl
  have lM : (M35 ns c A).length ≤ 9 := by unfold M35; rw [List.length_map, nums_len]; exact h9
  rw [ed, ep]
  generalize M35 ns c A = M at mk w0 W1 lM
  refine rns_freezeTo (d := .lst ((M.map (·.2)).map dis)) 3 rfl (er_tRows _) ?_
  refine rns_freezeTo (d := dis (M.map (·.1))) 4 rfl (er_tInts _) ?_
  refine rns_cons (rn_set 7 (Ev.s (ev_sum T.b_sum (ev_nm 4 rfl) rfl)) (fun _ => sc__law_shares.nd)) ?_
  refine rns_cons (rn_set 8 (Ev.s (ev_lst eva_nil (Nat.zero_le _))) (fun _ => sc__law_shares.nd)) ?_
  obtain ⟨W, eW⟩ : ∃ W, totF M = W := ⟨_, rfl⟩
  show Rns _ _ [some (.fz (dis ns)), some (.fz (dis c)), some (ti (A : Nat)), some (.fz (.lst ((M.map (·.2)).map dis))), some (.fz (dis (M.map (·.1)))), none, none, some (ti (totF M)), some (.ow []), none, none, none, none, none] _
  have wl := wt_le mk
  rw [eW] at w0 wl ⊢
  have W1' : Unit → W < 2 ^ 70 := fun u => eW ▸ W1 u
  clear W1
  refine rns_cons (rn_for (its := rngD 0 A) (EvI.s (EvI.to (evi_range1 (n := ((A : Nat) : Int)) T.b_range (ev_nm 2 rfl) ⟨by omega, by omega⟩) (by rw [Int.toNat_natCast]))) (evg_nm 9 (fun _ => sc__law_shares.nd)) (fun j => [some (.fz (dis ns)), some (.fz (dis c)), some (ti (A : Nat)), some (.fz (.lst ((M.map (·.2)).map dis))), some (.fz (dis (M.map (·.1)))), none, none, some (ti W), some (.ow ((rows35 j c.length M).map fun r => .fz (dFs W r))), none, none, none, none, none]) rfl (fun _ => rfl) (fun j dj hdj => ?_)) ?_
  · obtain ⟨hj, rfl⟩ := rng_get hdj
    obtain ⟨a, ea⟩ : ∃ z : Int, 0 + (j : Int) = z := ⟨_, rfl⟩
    have a0 : 0 ≤ a ∧ a < A := by omega
    have hr : rows35 (j + 1) c.length M = rows35 j c.length M ++ [(numsF (c.length + 1)).map (wtF M a)] := by
      unfold rows35
      rw [nums_succ j, ea, List.map_append]; rfl
    have lr : (rows35 j c.length M).length = j := by unfold rows35; rw [List.length_map, nums_len]
    rw [ea, hr]
    generalize rows35 j c.length M = pre at lr
    refine ⟨_, [some (.fz (dis ns)), some (.fz (dis c)), some (ti (A : Nat)), some (.fz (.lst ((M.map (·.2)).map dis))), some (.fz (dis (M.map (·.1)))), none, none, some (ti W), some (.ow ((pre ++ [(numsF (c.length + 1)).map (wtF M a)]).map fun r => .fz (dFs W r))), none, none, none, none, none], rfl, ?_, ⟨[], rfl⟩⟩
    refine rns_cons (rn_set 10 (Ev.s (ev_lst eva_nil (Nat.zero_le _))) (fun _ => sc__law_shares.nd)) ?_
    show Rns _ _ [some (.fz (dis ns)), some (.fz (dis c)), some (ti (A : Nat)), some (.fz (.lst ((M.map (·.2)).map dis))), some (.fz (dis (M.map (·.1)))), none, none, some (ti W), some (.ow (pre.map fun r => .fz (dFs W r))), some (ti a), some (.ow []), none, none, none] _
    refine rns_cons (rn_for (its := rngD 0 (c.length + 1)) (EvI.s (EvI.to (evi_range1 T.b_range (ev_add (ev_len T.b_len (ev_nm 1 rfl) (.inl rfl)) ev_int) (by rw [el]; omega)) (by rw [el, show ((c.length : Int) + 1).toNat = c.length + 1 by omega]))) (evg_nm 11 (fun _ => sc__law_shares.nd)) (fun m => [some (.fz (dis ns)), some (.fz (dis c)), some (ti (A : Nat)), some (.fz (.lst ((M.map (·.2)).map dis))), some (.fz (dis (M.map (·.1)))), none, none, some (ti W), some (.ow (pre.map fun r => .fz (dFs W r))), some (ti a), some (.ow (((numsF m).map (wtF M a)).map fun v => .fz (dF (fW W v)))), none, none, none]) rfl (fun _ => rfl) (fun m dm hdm => ?_)) ?_
    · obtain ⟨hm, rfl⟩ := rng_get hdm
      obtain ⟨x, ex⟩ : ∃ z : Int, 0 + (m : Int) = z := ⟨_, rfl⟩
      rw [ex, nums_succ, ex, List.map_append, List.map_append]
      have lm : ((numsF m).map (wtF M a)).length = m := by rw [List.length_map, nums_len]
      generalize (numsF m).map (wtF M a) = acc at lm
      have wl' := wl a x
      refine ⟨_, [some (.fz (dis ns)), some (.fz (dis c)), some (ti (A : Nat)), some (.fz (.lst ((M.map (·.2)).map dis))), some (.fz (dis (M.map (·.1)))), none, none, some (ti W), some (.ow (pre.map fun r => .fz (dFs W r))), some (ti a), some (.ow ((acc.map fun v => .fz (dF (fW W v))) ++ [.fz (dF (fW W (wtF M a x)))])), none, none, none], rfl, ?_, ⟨[], rfl⟩⟩
      refine rns_cons (rn_set 12 (EvS.to (t' := ti (wtF M a x)) (Ev.s (ev_sum T.b_sum (ev_lcf (own := ["_law_part", "_law_deal_here"]) (fr := [11, 9]) M (fun m => Dv.tup [di m.1, dis m.2]) (fun m => decide (lat m.2 a = x)) (fun m => ti m.1) (fun i => lcs ⟨rfl, rfl, by decide +kernel, by decide +kernel, by decide +kernel, by decide +kernel⟩) (EvI.to (evi_zip T.b_zip (ev_nm 4 rfl) (ev_nm 3 rfl) rfl rfl) (zipD_M M)) (evg_t2 0 1 (fun _ => by show List.Nodup (["_law_part", "_law_deal_here", "_law_thing", "_law_asker"] : List Str); decide)) (by decide) (by omega) (fun m hm => ⟨_, rfl, by
        exact el_one (et_eq (ev_ix (d := di (lat m.2 a)) (ev_nm 1 rfl) (ev_nm 3 rfl) rfl (lat_at di a0.1 (by rw [mk.l m hm]; exact a0.2))) (ev_nm 2 rfl)), fun _ => by exact ev_nm 0 rfl⟩) (fun dd => by rcases dd with _ | ⟨a, _ | ⟨b, dd⟩⟩ <;> rfl)) (ns := (M.filter fun m => decide (lat m.2 a = x)).map (·.1)) ?_)) rfl) (fun _ => sc__law_shares.nd)) ?_
      · rw [er_ow_map]
        show Dv.lst _ = Dv.lst _
        rw [List.map_map]; rfl
      generalize wtF M a x = v at wl'
      have gp := gc_pos (a := v) (show W ≠ 0 by omega)
      have gl := gc_le_r (a := v) w0
      have cdg : ∀ i : Int, CDivB i (gc v W) := fun i => ⟨gp, bigI (Int.le_of_lt gp) (Int.lt_trans (Int.lt_of_le_of_lt gl (W1' ())) (by decide))⟩
      refine rns_cons (rn_set 13 (Ev.s (ev_call K__law_divisor (Nat.le_refl _) (eva_cons (ev_nm 12 rfl) (eva_cons (ev_nm 7 rfl) eva_nil)) ⟨v, W, by omega, by omega, rfl, rfl⟩)) (fun _ => sc__law_shares.nd)) ?_
      refine rns_cons (rn_append 10 rfl (Ev.s (ev_tupD (dd := [di (fW W v).1, di (fW W v).2]) (eva_cons (ev_div (ev_nm 12 rfl) (ev_nm 13 rfl) (cdg _)) (eva_cons (ev_div (ev_nm 7 rfl) (ev_nm 13 rfl) (cdg _)) eva_nil)) ?_ (by show 2 ≤ sizeLine; decide))) ?_) (rns_nilF ⟨[11, 12, 13], rfl⟩)
      · show [di (v / gc v W), di (W / gc v W)] = [di (lT v W), di (lB v W)]
        rw [lT_pos w0, lB_pos w0]
      · rw [List.length_map]; omega
    rw [show (rngD 0 (c.length + 1)).length = c.length + 1 by unfold rngD; rw [List.length_map, List.length_range]]
    refine rns_freezeTo (d := dFs W ((numsF (c.length + 1)).map (wtF M a))) 10 rfl (by rw [er_ow_map]; rfl) ?_
    refine rns_cons (rn_append 8 rfl (Ev.s (ev_nm 10 rfl)) (by rw [List.length_map]; omega)) (Rns.to (rns_nilF (ρ2 := [some (.fz (dis ns)), some (.fz (dis c)), some (ti (A : Nat)), some (.fz (.lst ((M.map (·.2)).map dis))), some (.fz (dis (M.map (·.1)))), none, none, some (ti W), some (.ow ((pre.map fun r => .fz (dFs W r)) ++ [.fz (dFs W ((numsF (c.length + 1)).map (wtF M a)))])), none, none, none, none, none]) ⟨[9, 10], rfl⟩) ?_)
    rw [List.map_append]; rfl
  rw [show (rngD 0 A).length = A by unfold rngD; rw [List.length_map, List.length_range]]
  refine rns_freezeTo (d := dSh W (rows35 A c.length M)) 8 rfl (by rw [er_ow_map]; rfl) ?_
  exact rns_one (rn_ret (Ev.s (ev_nm 8 rfl)))
abbrev s__law_plus : Stmt := top 37
theorem sc__law_plus : FnScope ["_law_one", "_law_other", "_law_top", "_law_bottom", "_law_by"] ["_law_one", "_law_other"] (defScope s__law_plus) := ⟨rfl, rfl, rfl, by decide +kernel, rfl, by decide +kernel, by decide +kernel⟩
def rPlus35 (dd : List Dv) (r : Tr) : Prop := ∃ D s t : Int, 0 < D ∧ D < 2 ^ 230 ∧ (0 ≤ s ∧ s ≤ D) ∧ (0 ≤ t ∧ t ≤ D) ∧ dd = [dF (fW D s), dF (fW D t)] ∧ r = tF (fW D (s + t))
theorem ok__law_plus {f f1 : Addr} {fd fd1 : FuncData} {k : Nat} (F : Fun K "_law_plus" "_law_plus" s__law_plus f fd) (T : Txt mg) (K__law_divisor : Kn P w K mg base CX0 (k + 1) "_law_divisor" f1 fd1 ["_law_one", "_law_other"] (spT K rDivisor)) : FnOk P w K mg base CX0 (k + 2) f fd ["_law_one", "_law_other"] (spT K rPlus35) := by
  refine fn_ok F.d sc__law_plus (fun dd t h => by obtain ⟨_, _, _, _, _, _, _, rfl, _⟩ := h; rfl) fun dd r h => ?_
  obtain ⟨D, s, t, D0, D1, hs, ht, rfl, rfl⟩ := h
  refine ⟨_, .inl rfl, ?_⟩
  have pl := fW_plus (s := s) (t := t) D0
  have s2 := fW_pos (s := s) D0
  have t2 := fW_pos (s := t) D0
  have s3 := fW_le (s := s) D0
  have t3 := fW_le (s := t) D0
  have s4 := fW_nonneg D0 hs.1
  have t4 := fW_nonneg D0 ht.1
  have s5 := fW_top (s := s) D0
  have t5 := fW_top (s := t) D0
  show Rns _ _ [some (tF (fW D s)), some (tF (fW D t)), none, none, none] _
  generalize fW D s = p at *
  generalize fW D t = q at *
  obtain ⟨p1, p2⟩ := p
  obtain ⟨q1, q2⟩ := q
  simp only at pl s2 t2 s3 t3 s4 t4 s5 t5
  have bI : ∀ {a : Int}, 0 ≤ a → a ≤ D → a.natAbs < 2 ^ 8000 := fun h0 h1 => bigI h0 (by omega)
  refine rns_cons (rn_set 2 (Ev.s (ev_add (ev_mul (ev_ixT (d := di p1) (ev_nm 0 rfl) ev_int rfl rfl) (ev_ixT (d := di q2) (ev_nm 1 rfl) ev_int rfl rfl) ⟨bI s4 (by omega), bI (by omega) t3⟩) (ev_mul (ev_ixT (d := di q1) (ev_nm 1 rfl) ev_int rfl rfl) (ev_ixT (d := di p2) (ev_nm 0 rfl) ev_int rfl rfl) ⟨bI t4 (by omega), bI (by omega) s3⟩))) (fun _ => sc__law_plus.nd)) ?_
  refine rns_cons (rn_set 3 (Ev.s (ev_mul (ev_ixT (d := di p2) (ev_nm 0 rfl) ev_int rfl rfl) (ev_ixT (d := di q2) (ev_nm 1 rfl) ev_int rfl rfl) ⟨bI (by omega) s3, bI (by omega) t3⟩)) (fun _ => sc__law_plus.nd)) ?_
  have b0 : 0 < p2 * q2 := Int.mul_pos s2 t2
  have a0 : 0 ≤ p1 * q2 + q1 * p2 := by
    have := Int.mul_nonneg s4 (show 0 ≤ q2 by omega)
    have := Int.mul_nonneg t4 (show 0 ≤ p2 by omega)
    omega
  have bb : (p2 * q2).natAbs < 2 ^ 8000 := by
    have h1 : p2.natAbs < 2 ^ 250 := by omega
    have h2 : q2.natAbs < 2 ^ 250 := by omega
    rw [Int.natAbs_mul]
    have h3 : p2.natAbs * q2.natAbs < 2 ^ 250 * 2 ^ 250 := Nat.mul_lt_mul'' h1 h2
    rw [← Nat.pow_add] at h3
    exact Nat.lt_of_lt_of_le h3 (Nat.pow_le_pow_right (by decide) (by decide))
  have gp := gc_pos (a := p1 * q2 + q1 * p2) (show p2 * q2 ≠ 0 by omega)
  have gl := gc_le_r (a := p1 * q2 + q1 * p2) b0
  refine rns_cons (rn_set 4 (Ev.s (ev_call K__law_divisor (Nat.le_refl _) (eva_cons (ev_nm 2 rfl) (eva_cons (ev_nm 3 rfl) eva_nil)) ⟨_, _, a0, by omega, rfl, rfl⟩)) (fun _ => sc__law_plus.nd)) ?_
  have cdg : ∀ i : Int, CDivB i (gc (p1 * q2 + q1 * p2) (p2 * q2)) := fun i => ⟨gp, Nat.lt_of_le_of_lt (by omega) bb⟩
  refine rns_one (rn_ret (Ev.s (ev_tupD (dd := [di (fW D (s + t)).1, di (fW D (s + t)).2]) (eva_cons (ev_div (ev_nm 2 rfl) (ev_nm 4 rfl) (cdg _)) (eva_cons (ev_div (ev_nm 3 rfl) (ev_nm 4 rfl) (cdg _)) eva_nil)) ?_ (by show 2 ≤ sizeLine; decide))))
  rw [← pl]
  show [di ((p1 * q2 + q1 * p2) / gc (p1 * q2 + q1 * p2) (p2 * q2)), di (p2 * q2 / gc (p1 * q2 + q1 * p2) (p2 * q2))] = [di (lT (p1 * q2 + q1 * p2) (p2 * q2)), di (lB (p1 * q2 + q1 * p2) (p2 * q2))]
  rw [lT_pos b0, lB_pos b0]
end
end K35
namespace K35
open PySem L2 Fra
section
variable {P : Program} {w : World} {K : PySem.W.Frag} {mg : Str → Option Value} {base : Heap}
theorem dpD_fs (W : Int) (r : List Int) : dpD (dFs W r) ≤ 2 := dpD_lst fun d hd => by
  obtain ⟨s, _, rfl⟩ := List.mem_map.mp hd
  exact dpD_dF _
theorem dpD_sh (W : Int) (rows : List (List Int)) : dpD (dSh W rows) ≤ 3 := dpD_lst fun d hd => by
  obtain ⟨s, _, rfl⟩ := List.mem_map.mp hd
  exact dpD_fs W s
theorem okD_fs (W : Int) (r : List Int) : okD (dFs W r) = true := okD_lst (fun s => okD_dF (fW W s)) r
theorem okD_sh (W : Int) (rows : List (List Int)) : okD (dSh W rows) = true := okD_lst (okD_fs W) rows
abbrev s__law_is_part : Stmt := top 39
theorem sc__law_is_part : FnScope ["_law_part", "_law_counts_here", "_law_askers", "_law_top", "_law_bottom", "_law_thing"] ["_law_part", "_law_counts_here", "_law_askers"] (defScope s__law_is_part) := ⟨rfl, rfl, rfl, by decide +kernel, rfl, by decide +kernel, by decide +kernel⟩
def rIsPart (dd : List Dv) (r : Tr) : Prop := ∃ (D w : Int) (d c : List Int), 0 < D ∧ 0 < w ∧ d.length ≤ 100 ∧ c.length ≤ 6 ∧ (∀ x ∈ d, 0 ≤ x ∧ x ≤ c.length) ∧ (∀ k : Int, 0 ≤ k → k < c.length → (d.count k : Int) ≤ lat c k) ∧ dd = [.tup [dF (fW D w), dis d], dis c, di (d.length : Nat)] ∧ r = tb true
theorem ok__law_is_part {f f1 f2 : Addr} {fd fd1 fd2 : FuncData} {k : Nat} (F : Fun K "_law_is_part" "_law_is_part" s__law_is_part f fd) (T : Txt mg) (K__law_divisor : Kn P w K mg base CX0 (k + 1) "_law_divisor" f1 fd1 ["_law_one", "_law_other"] (spT K rDivisor)) (K__law_whole : Kn P w K mg base CX0 (k + 1) "_law_whole" f2 fd2 ["_law_found"] (spT K rWhole)) : FnOk P w K mg base CX0 (k + 2) f fd ["_law_part", "_law_counts_here", "_law_askers"] (spT K rIsPart) := by
  refine fn_ok F.d sc__law_is_part (fun dd t h => by obtain ⟨_, _, _, _, _, _, _, _, _, _, rfl, _⟩ := h; rfl) fun dd r h => ?_
  obtain ⟨D, wt, d, c, D0, w0, dl, n6, rng, cnt, rfl, rfl⟩ := h
  refine ⟨_, .inl rfl, ?_⟩
  have big : 1000 < sizeLine := by decide
  have el : ∀ {α : Type} (g : α → Dv) (l : List α), ((l.map g).length : Int) = l.length := fun g l => by rw [List.length_map]
  have cr := fW_cross (s := wt) D0
  have co := fW_gcd (s := wt) D0
  have q0 := fW_pos (s := wt) D0
  generalize fW D wt = p at cr co q0
  obtain ⟨p1, p2⟩ := p
  simp only at cr co q0
  have p0 : 0 < p1 := by
    have h1 : 0 < wt * p2 := Int.mul_pos w0 q0
    rcases Int.lt_or_le 0 p1 with z | z
    · exact z
    · have := Int.mul_le_mul_of_nonneg_right z (show 0 ≤ D by omega)
      omega
  have g1 : gc p1 p2 = 1 := by unfold gc; rw [co]; rfl
  show Rns _ _ [some (.fz (.tup [dF (p1, p2), dis d])), some (.fz (dis c)), some (ti (d.length : Nat)), none, none, none] _
  refine rns_cons (rn_skip (Et.s (Ew.et (ew_or (et_not (et_val (ev_isi (bo := true) T.b_isinstance T.b_tuple bt_tuple (ev_nm 0 rfl) (by with_unfolding_all rfl)))) fun _ => (ew_or (et_ne (ev_len T.b_len (ev_nm 0 rfl) (.inr rfl)) ev_int) fun _ => (ew_or (et_not (et_val (ev_isi (bo := true) T.b_isinstance T.b_tuple bt_tuple (ev_ixT (d := dF (p1, p2)) (ev_nm 0 rfl) ev_int rfl rfl) (by with_unfolding_all rfl)))) fun _ => (ew_or1 (et_ne (ev_len T.b_len (ev_ixT (d := dF (p1, p2)) (ev_nm 0 rfl) ev_int rfl rfl) (.inr rfl)) ev_int))))))) rfl) ?_
  refine rns_cons (rn_set2 (Ev.s (ev_ixT (d := dF (p1, p2)) (ev_nm 0 rfl) ev_int rfl rfl)) (evg_t2 3 4 (fun _ => sc__law_is_part.nd)) rfl) ?_
  show Rns _ _ [some (.fz (.tup [dF (p1, p2), dis d])), some (.fz (dis c)), some (ti (d.length : Nat)), some (ti p1), some (ti p2), none] _
  refine rns_cons (rn_skip (Et.s (Ew.et (ew_or (et_not (et_val (ev_call (t := tb true) K__law_whole (Nat.le_refl _) (eva_cons (ev_nm 3 rfl) eva_nil) ⟨p1, rfl, rfl⟩))) fun _ => (ew_or (et_not (et_val (ev_call (t := tb true) K__law_whole (Nat.le_refl _) (eva_cons (ev_nm 4 rfl) eva_nil) ⟨p2, rfl, rfl⟩))) fun _ => (ew_or (et_lt (ev_nm 3 rfl) ev_int) fun _ => (ew_or (et_lt (ev_nm 4 rfl) ev_int) fun _ => (ew_or1 (et_ne (ev_call (t := ti (gc p1 p2)) K__law_divisor (Nat.le_refl _) (eva_cons (ev_nm 3 rfl) (eva_cons (ev_nm 4 rfl) eva_nil)) ⟨p1, p2, by omega, by omega, rfl, rfl⟩) ev_int)))))))) ?_) ?_
  · rw [g1, decide_eq_false (show ¬ p1 < 1 by omega), decide_eq_false (show ¬ p2 < 1 by omega)]; rfl
  refine rns_cons (rn_skip (Et.s (Ew.et (ew_or (et_not (et_val (ev_isi (bo := true) T.b_isinstance T.b_list bt_list (ev_ixT (d := dis d) (ev_nm 0 rfl) ev_int rfl rfl) (by with_unfolding_all rfl)))) fun _ => (ew_or1 (et_ne (ev_len T.b_len (ev_ixT (d := dis d) (ev_nm 0 rfl) ev_int rfl rfl) (.inl rfl)) (ev_nm 2 rfl)))))) ?_) ?_
  · rw [el, decide_eq_true rfl]; rfl
  refine rns_look (t := tb false) (EvI.s (evi_list (ev_ixT (d := dis d) (ev_nm 0 rfl) ev_int rfl rfl) rfl)) (evg_nm 5 (fun _ => sc__law_is_part.nd)) rfl (fun _ => true) (fun e he => ?_) (fun h => ?_) (fun h => ?_)
  · obtain ⟨x, hx, rfl⟩ := List.mem_map.mp he
    have hx' := rng x hx
    refine ⟨_, rfl, fun _ => ⟨_, rns_one (rn_skip (Et.s (Ew.et (ew_or (et_not (et_val (ev_call (t := tb true) K__law_whole (Nat.le_refl _) (eva_cons (ev_nm 5 rfl) eva_nil) ⟨x, rfl, rfl⟩))) fun _ => (ew_or (et_lt (ev_nm 5 rfl) ev_int) fun _ => (ew_or1 (et_gt (ev_nm 5 rfl) (ev_len T.b_len (ev_nm 1 rfl) (.inl rfl)))))))) ?_), [5], rfl⟩, fun h => by cases h⟩
    rw [el, decide_eq_false (show ¬ x < 0 by omega), decide_eq_false (show ¬ (c.length : Int) < x by omega)]; rfl
  · refine rns_one (rn_ret (Ev.s (Ev.to (ev_all (bs := (numsF c.length).map fun _ => true) T.b_all (ev_lcm (own := ["_law_k"]) (fr := [1, 0]) (numsF c.length) di (fun k => tb (decide ((d.count k : Int) ≤ lat c k))) (fun i => lcs ⟨rfl, rfl, by decide +kernel, by decide +kernel, by decide +kernel, by decide +kernel⟩) (EvI.to (evi_range1 T.b_range (ev_len T.b_len (ev_nm 1 rfl) (.inl rfl)) (by rw [el]; omega)) (by rw [el, Int.toNat_natCast, nums_di])) (evg_nm 0 (fun _ => by show List.Nodup (["_law_k", "_law_counts_here", "_law_part"] : List Str); decide)) (by decide) (by rw [nums_len]; omega) (fun x hx => ⟨_, rfl, by
      have hx' := mem_nums.mp hx
      exact ev_le (ev_count (ev_ixT (d := dis d) (ev_nm 2 rfl) ev_int rfl rfl) rfl (ev_nm 0 rfl)) (ev_ix (d := di (lat c x)) (ev_nm 1 rfl) (ev_nm 0 rfl) rfl (lat_at di hx'.1 hx'.2))⟩) (fun dd => by cases dd <;> rfl)) ?_) ?_)))
    · rw [er_ow_map, List.map_map]
      congr 1
      refine List.map_congr_left fun x hx => ?_
      have hx' := mem_nums.mp hx
      show db (decide _) = db true
      rw [decide_eq_true (cnt x hx'.1 hx'.2)]
    · rw [List.all_map]
      show tb ((numsF c.length).all fun _ => true) = tb true
      rw [List.all_eq_true.mpr fun _ _ => rfl]
  · rw [List.all_eq_true.mpr fun _ _ => rfl] at h
    cases h
theorem atI_int {α : Type} {xs : List α} {n : Int} {v : α} (h0 : 0 ≤ n) (h : xs[n.toNat]? = some v) : atI xs n = some v := by
  have := atI_nat h
  rwa [Int.toNat_of_nonneg h0] at this
def come (D : Int) (A n : Nat) (M : List (Int × List Int)) : List (List Dv) := (numsF A).map fun a => (numsF (n + 1)).map fun x => dF (fW D (wtF M a x))
theorem wtF_app (M : List (Int × List Int)) (m : Int × List Int) (a x : Int) : wtF (M ++ [m]) a x = wtF M a x + if lat m.2 a = x then m.1 else 0 := by
  unfold wtF
  rw [List.filter_append, List.map_append, List.sum_append, List.filter_cons]
  by_cases h : lat m.2 a = x
  · rw [if_pos (decide_eq_true h), if_pos h]; simp
  · rw [if_neg (by rw [decide_eq_false h]; decide), if_neg h]; rfl
theorem tot_app (M : List (Int × List Int)) (m : Int × List Int) : totF (M ++ [m]) = totF M + m.1 := by
  unfold totF
  rw [List.map_append, List.sum_append]; simp
theorem tot_take {M : List (Int × List Int)} (h : ∀ m ∈ M, 0 < m.1) : ∀ j, 0 ≤ totF (M.take j) ∧ totF (M.take j) ≤ totF M := by
  induction M with
  | nil => intro j; rw [List.take_nil]; exact ⟨Int.le_refl _, Int.le_refl _⟩
  | cons m M ih =>
    intro j
    have h1 := h m (.head _)
    have e : ∀ l, totF (m :: l) = m.1 + totF l := fun l => by show ((m :: l).map (·.1)).sum = _; rw [List.map_cons, List.sum_cons]
    cases j with
    | zero =>
      have := (ih (fun x hx => h x (.tail _ hx)) 0).2
      rw [List.take_zero] at this ⊢
      rw [e]
      have z : totF [] = 0 := rfl
      omega
    | succ j =>
      have := ih (fun x hx => h x (.tail _ hx)) j
      rw [List.take_succ_cons, e, e]
      omega
theorem wt_tot {M : List (Int × List Int)} (h : ∀ m ∈ M, 0 < m.1) (a x : Int) : 0 ≤ wtF M a x ∧ wtF M a x ≤ totF M := by
  induction M with
  | nil => exact ⟨Int.le_refl _, Int.le_refl _⟩
  | cons m M ih =>
    have h1 := h m (.head _)
    have := ih fun x hx => h x (.tail _ hx)
    have e : totF (m :: M) = m.1 + totF M := by show ((m :: M).map (·.1)).sum = _; rw [List.map_cons, List.sum_cons]
    rw [wtF_cons, e]
    split <;> omega
def dMix (D : Int) (M : List (Int × List Int)) : Dv := .lst (M.map fun m => .tup [dF (fW D m.1), dis m.2])
abbrev s__law_is_mix : Stmt := top 40
theorem sc__law_is_mix : FnScope ["_law_mix", "_law_counts_here", "_law_shares_here", "_law_known", "_law_total", "_law_come", "_law_part", "_law_row", "_law_thing", "_law_most"] ["_law_mix", "_law_counts_here", "_law_shares_here"] (defScope s__law_is_mix) := ⟨rfl, rfl, rfl, by decide +kernel, rfl, by decide +kernel, by decide +kernel⟩
def rIsMix (dd : List Dv) (r : Tr) : Prop := ∃ (W : Int) (c : List Int) (rows : List (List Int)) (D : Int) (M : List (Int × List Int)), MixIn W c rows ∧ Mx35 W c rows D M ∧ dd = [dMix D M, dis c, dSh W rows] ∧ r = tb true
theorem ok__law_is_mix {f f1 f2 : Addr} {fd fd1 fd2 : FuncData} {k : Nat} (F : Fun K "_law_is_mix" "_law_is_mix" s__law_is_mix f fd) (T : Txt mg) (K__law_is_part : Kn P w K mg base CX0 (k + 2) "_law_is_part" f1 fd1 ["_law_part", "_law_counts_here", "_law_askers"] (spT K rIsPart)) (K__law_plus : Kn P w K mg base CX0 (k + 2) "_law_plus" f2 fd2 ["_law_one", "_law_other"] (spT K rPlus35)) : FnOk P w K mg base CX0 (k + 3) f fd ["_law_mix", "_law_counts_here", "_law_shares_here"] (spT K rIsMix) := by
  refine fn_ok F.d sc__law_is_mix (fun dd t h => by obtain ⟨_, _, _, _, _, _, _, rfl, _⟩ := h; rfl) fun dd r h => ?_
  obtain ⟨W, c, rows, D, M, mi, mx, rfl, rfl⟩ := h
  refine ⟨_, .inl rfl, ?_⟩
  have big : 1000 < sizeLine := by decide
  have el : ∀ {α : Type} (g : α → Dv) (l : List α), ((l.map g).length : Int) = l.length := fun g l => by rw [List.length_map]
  have n6 := mi.n6
  have A6 := mi.A6
  have w0 := mi.sh.w0
  have D0 := mx.D0
  have mtot : totF M = D := mx.tot
  have lf := are_lf mi.sh mi.n6 mi.c9 mi.ne mi.A6 mi.ar
  have rlen : ∀ r ∈ rows, r.length = c.length + 1 := fun r hr => by
    have := (lf.row (r.map (prt W (botF W rows))) (List.mem_map.mpr ⟨r, hr, rfl⟩)).1
    rw [List.length_map] at this
    exact this
  refine rns_cons (rn_skip (Et.s (et_not (et_val (ev_isi (bo := true) T.b_isinstance T.b_list bt_list (ev_nm 0 rfl) (by with_unfolding_all rfl))))) rfl) ?_
  refine rns_cons (rn_set 3 (Ev.s (ev_lst eva_nil (Nat.zero_le _))) (fun _ => sc__law_is_mix.nd)) ?_
  refine rns_cons (rn_set 4 (Ev.s (ev_tupD (dd := [di 0, di 1]) (eva_cons ev_int (eva_cons ev_int eva_nil)) rfl (by show 2 ≤ sizeLine; decide))) (fun _ => sc__law_is_mix.nd)) ?_
  have e0 : (Tr.ow (rows.map fun r => Tr.ow (List.replicate (r.length : Int).toNat (Tr.fz (dF (0, 1)))))) = .ow ((come D rows.length c.length []).map tRw) := by
    unfold come
    rw [List.map_map]
    congr 1
    have e1 : (rows.map fun r => Tr.ow (List.replicate (r.length : Int).toNat (Tr.fz (dF (0, 1))))) = rows.map fun _ => Tr.ow (List.replicate (c.length + 1) (Tr.fz (dF (0, 1)))) := List.map_congr_left fun r hr => by rw [Int.toNat_natCast, rlen r hr]
    have e2 : ((numsF rows.length).map (tRw ∘ fun a => (numsF (c.length + 1)).map fun x => dF (fW D (wtF [] a x)))) = (numsF rows.length).map fun _ => Tr.ow (List.replicate (c.length + 1) (Tr.fz (dF (0, 1)))) := List.map_congr_left fun a _ => by
      show Tr.ow (List.map Tr.fz (List.map (fun x => dF (fW D (wtF [] a x))) (numsF (c.length + 1)))) = _
      rw [List.map_map]
      congr 1
      rw [show (Tr.fz ∘ fun x => dF (fW D (wtF [] a x))) = fun _ => Tr.fz (dF (0, 1)) from funext fun x => by show Tr.fz (dF (fW D 0)) = _; rw [fW_zero D0], List.map_const', nums_len]
    rw [e1, e2, List.map_const', List.map_const', nums_len]
  refine rns_cons (Rn.to (rn_lcG 5 (ElcS (elcm (own := ["_law_row"]) (fr := []) rows (dFs W) (fun r => Tr.ow (List.replicate (r.length : Int).toNat (Tr.fz (dF (0, 1))))) (evi_list (ev_nm 2 rfl) rfl) (evg_nm 0 (fun _ => by show List.Nodup (["_law_row"] : List Str); decide)) (by decide) (by omega) (fun r hr => ⟨_, rfl, by
    have hl := rlen r hr
    exact ev_rep (ev_lst (eva_cons (ev_tupD (dd := [di 0, di 1]) (eva_cons ev_int (eva_cons ev_int eva_nil)) rfl (by show 2 ≤ sizeLine; decide)) eva_nil) (by show 1 ≤ sizeLine; decide)) (Ev.to (t' := ti (r.length : Nat)) (ev_len T.b_len (ev_nm 0 rfl) (.inl rfl)) (by rw [el])) (by omega) (by omega)⟩) (fun dd => by cases dd <;> rfl))) (fun i => lcs ⟨rfl, rfl, by decide +kernel, by decide +kernel, by decide +kernel, by decide +kernel⟩) (fun _ => sc__law_is_mix.nd)) (ρ2 := [some (.fz (dMix D M)), some (.fz (dis c)), some (.fz (dSh W rows)), some (.ow []), some (tF (fW D 0)), some (.ow ((come D rows.length c.length []).map tRw)), none, none, none, none]) ?_) ?_
  · show [_, _, _, _, some (Tr.fz (Dv.tup [di 0, di 1])), some (Tr.ow _), _, _, _, _] = _
    rw [e0, fW_zero D0]
  refine rns_cons (rn_for (EvI.s (evi_list (ev_nm 0 rfl) rfl)) (evg_nm 6 (fun _ => sc__law_is_mix.nd)) (fun j => [some (.fz (dMix D M)), some (.fz (dis c)), some (.fz (dSh W rows)), some (.ow (((M.take j).map (·.2)).map fun d => .fz (dis d))), some (tF (fW D (totF (M.take j)))), some (.ow ((come D rows.length c.length (M.take j)).map tRw)), none, none, none, none]) (by rw [List.take_zero]; rfl) (fun _ => rfl) (fun j dj hdj => ?_)) ?_
  · obtain ⟨m, hm, rfl⟩ : ∃ m, M[j]? = some m ∧ dj = .tup [dF (fW D m.1), dis m.2] := by
      rw [List.getElem?_map] at hdj
      cases q : M[j]? with
      | none => rw [q] at hdj; cases hdj
      | some m => rw [q] at hdj; cases hdj; exact ⟨m, rfl, rfl⟩
    have hmem := List.mem_of_getElem? hm
    have hj := (List.getElem?_eq_some_iff.mp hm).1
    have ht : M.take (j + 1) = M.take j ++ [m] := by rw [List.take_succ, hm]; rfl
    have m0 := mx.pos m hmem
    have ml := mx.len m hmem
    have mr := mx.rng m hmem
    have mc := mx.cnt m hmem
    have tk := tot_take mx.pos j
    have tk1 := tot_take mx.pos (j + 1)
    rw [mtot] at tk tk1
    rw [ht, tot_app] at tk1
    have new : ((M.take j).map (·.2)).contains m.2 = false := by
      have hn := mx.nd
      have : (M.map (·.2)).take j ++ m.2 :: (M.map (·.2)).drop (j + 1) = M.map (·.2) := by
        have hl : j < (M.map (·.2)).length := by rw [List.length_map]; exact hj
        have e : (M.map (·.2))[j] = m.2 := by
          rw [List.getElem_map]
          rw [List.getElem?_eq_getElem hj] at hm
          rw [Option.some.inj hm]
        conv => rhs; rw [← List.take_append_drop j (M.map (·.2)), List.drop_eq_getElem_cons hl, e]
      rw [← this] at hn
      have h2 := (List.nodup_append.mp hn).2.2
      cases hc : ((M.take j).map (·.2)).contains m.2 with
      | false => rfl
      | true =>
        have hmm : m.2 ∈ (M.map (·.2)).take j := by rw [← List.map_take]; simpa using hc
        exact absurd rfl (h2 m.2 hmm m.2 (.head _))
    have lk : ((M.take j).map (·.2)).length ≤ 48 := by
      have := mx.m48
      rw [List.length_map, List.length_take]; omega
    have pre0 : ∀ m ∈ M.take j, 0 < m.1 := fun m hm => mx.pos m (List.mem_of_mem_take hm)
    have wle : ∀ a x, 0 ≤ wtF (M.take j) a x ∧ wtF (M.take j) a x ≤ D := fun a x => by
      have := wt_tot pre0 a x
      omega
    rw [ht]
    generalize M.take j = pre at new lk tk tk1 wle
    refine ⟨_, [some (.fz (dMix D M)), some (.fz (dis c)), some (.fz (dSh W rows)), some (.ow (((pre ++ [m]).map (·.2)).map fun d => .fz (dis d))), some (tF (fW D (totF (pre ++ [m])))), some (.ow ((come D rows.length c.length (pre ++ [m])).map tRw)), none, none, none, none], rfl, ?_, ⟨[], rfl⟩⟩
    obtain ⟨wm, dm⟩ := m
    simp only at new m0 ml mr mc tk1
    show Rns _ _ [some (.fz (dMix D M)), some (.fz (dis c)), some (.fz (dSh W rows)), some (.ow ((pre.map (·.2)).map fun d => .fz (dis d))), some (tF (fW D (totF pre))), some (.ow ((come D rows.length c.length pre).map tRw)), some (.fz (.tup [dF (fW D wm), dis dm])), none, none, none] _
    refine rns_cons (rn_skip (Et.pk (Ew.et (ew_or (et_not (et_val (ev_call (t := tb true) K__law_is_part (Nat.le_refl _) (eva_cons (ev_nm 6 rfl) (eva_cons (ev_nm 1 rfl) (eva_cons (Ev.to (t' := ti (dm.length : Nat)) (ev_len T.b_len (ev_nm 2 rfl) (.inl rfl)) (by rw [el, ml])) eva_nil))) ⟨D, wm, dm, c, D0, m0, by omega, n6, mr, mc, rfl, rfl⟩))) fun _ => (ew_or1 (et_inI (d := dm) (ls := pre.map (·.2)) (ev_ixT (d := dis dm) (ev_nm 6 rfl) ev_int rfl rfl) (ev_nm 3 rfl) rfl (by show er (.ow _) = _; rw [er_ow_map]; rfl) (by with_unfolding_all rfl)))))) ?_) ?_
    · rw [new]; rfl
    refine rns_cons (rn_append 3 rfl (Ev.s (ev_ixT (d := dis dm) (ev_nm 6 rfl) ev_int rfl rfl)) (by rw [List.length_map]; omega)) ?_
    refine rns_cons (rn_set 4 (Ev.s (ev_call K__law_plus (Nat.le_refl _) (eva_cons (ev_nm 4 rfl) (eva_cons (ev_ixT (d := dF (fW D wm)) (ev_nm 6 rfl) ev_int rfl rfl) eva_nil)) ⟨D, totF pre, wm, D0, mx.D1, tk, ⟨by omega, by omega⟩, rfl, rfl⟩)) (fun _ => sc__law_is_mix.nd)) ?_
    have lc1 : (come D rows.length c.length pre).length = rows.length := by unfold come; rw [List.length_map, nums_len]
    have lc2 : (come D rows.length c.length (pre ++ [(wm, dm)])).length = rows.length := by unfold come; rw [List.length_map, nums_len]
    have at1 : ∀ (P : List (Int × List Int)) {k : Nat} {row : List Dv}, (come D rows.length c.length P)[k]? = some row → k < rows.length ∧ row = (numsF (c.length + 1)).map fun x => dF (fW D (wtF P (k : Int) x)) := fun P k row h => by
      have hk : k < rows.length := by
        have := (List.getElem?_eq_some_iff.mp h).1
        unfold come at this
        rw [List.length_map, nums_len] at this
        exact this
      refine ⟨hk, ?_⟩
      unfold come at h
      have hg := nums_get (n := rows.length) (k := (k : Int)) (by omega) (by omega)
      rw [Int.toNat_natCast] at hg
      rw [List.getElem?_map, hg] at h
      exact (Option.some.inj h).symm
    have at2 : ∀ (P : List (Int × List Int)) {k : Nat}, k < rows.length → (come D rows.length c.length P)[k]? = some ((numsF (c.length + 1)).map fun x => dF (fW D (wtF P (k : Int) x))) := fun P k hk => by
      unfold come
      have hg := nums_get (n := rows.length) (k := (k : Int)) (by omega) (by omega)
      rw [Int.toNat_natCast] at hg
      rw [List.getElem?_map, hg]; rfl
    refine rns_cons (rn_for_zipset 5 7 8 (rows := come D rows.length c.length pre) (rows' := come D rows.length c.length (pre ++ [(wm, dm)])) (ns := dm) rfl rfl rfl (by decide) (by decide) (by decide) (ev_ixT (d := dis dm) (ev_nm 6 rfl) ev_int rfl rfl) rfl (by rw [lc1, ml]) (by rw [lc1, lc2]) (fun q row n hq hn => ?_) T.b_zip (fun _ => sc__law_is_mix.nd) (hps := fun i => pg_sub (pv 7) (pv 8) set_list)) ?_
    · obtain ⟨hq', erow⟩ := at1 pre hq
      have hnm : n ∈ dm := List.mem_of_getElem? hn
      have hn' := mr n hnm
      have eln : lat dm (q : Int) = n := by
        unfold lat
        rw [Int.toNat_natCast, List.getD_eq_getElem?_getD, hn]; rfl
      have rl : row.length = c.length + 1 := by rw [erow, List.length_map, nums_len]
      have wq := wle (q : Int) n
      have wq1 := wt_tot (M := [(wm, dm)]) (fun m hm => by rw [List.mem_singleton.mp hm]; exact m0)
      refine ⟨n.toNat, dF (fW D (wtF pre (q : Int) n + wm)), ?_, ?_, ?_⟩
      · unfold ixN
        rw [if_pos hn'.1, if_pos (by rw [rl]; omega)]
      · rw [at2 _ hq']
        congr 1
        rw [erow]
        refine List.ext_getElem (by rw [List.length_set, List.length_map, List.length_map]) fun i h1 h2 => ?_
        rw [List.getElem_set]
        rw [List.length_map, nums_len] at h1
        have gi : (numsF (c.length + 1))[i]'(by rw [nums_len]; exact h1) = (i : Int) := by
          have := nums_get (n := c.length + 1) (k := (i : Int)) (by omega) (by omega)
          rw [Int.toNat_natCast, List.getElem?_eq_getElem (by rw [nums_len]; exact h1)] at this
          exact Option.some.inj this
        rw [List.getElem_map, List.getElem_map, gi, wtF_app]
        show dF (fW D (wtF pre (q : Int) i + if lat dm (q : Int) = i then wm else 0)) = _
        by_cases e : n.toNat = i
        · rw [if_pos e, if_pos (by rw [eln]; omega), show (i : Int) = n by omega]
        · rw [if_neg e, if_neg (by rw [eln]; omega), Int.add_zero]
      · refine Ev.pkL (t := tF (fW D (wtF pre (q : Int) n + wm))) (ev_call K__law_plus (Nat.le_refl _) (eva_cons (ev_ix (d := dF (fW D (wtF pre (q : Int) n))) (ev_nm 7 rfl) (ev_nm 8 rfl) (er_fzs row) ?_) (eva_cons (ev_ixT (d := dF (fW D wm)) (ev_nm 6 rfl) ev_int rfl rfl) eva_nil)) ⟨D, wtF pre (q : Int) n, wm, D0, mx.D1, wq, ⟨by omega, by omega⟩, rfl, rfl⟩) rfl ?_
        · rw [erow]
          have hg := nums_get (n := c.length + 1) (k := n) hn'.1 (by omega)
          refine atI_int hn'.1 ?_
          rw [List.getElem?_map, hg]; rfl
        · show (true && (true && (true && (gdTs _ && (true && (true && (true && (gdTs _ && (true && (true && true)))))))))) = true
          rw [gdTs_of fun t ht => by
            rcases List.mem_append.mp ht with z | z
            · obtain ⟨x, _, rfl⟩ := List.mem_map.mp z; rfl
            · rw [List.mem_singleton.mp z]; rfl, gdTs_of fun t ht => by obtain ⟨x, _, rfl⟩ := List.mem_map.mp ht; rfl]; rfl
    refine Rns.to (rns_nilF (ρ2 := [some (.fz (dMix D M)), some (.fz (dis c)), some (.fz (dSh W rows)), some (.ow (((pre.map (·.2)).map fun d => .fz (dis d)) ++ [.fz (dis dm)])), some (tF (fW D (totF pre + wm))), some (.ow ((come D rows.length c.length (pre ++ [(wm, dm)])).map tRw)), none, none, none, none]) ⟨[6], rfl⟩) ?_
    rw [tot_app, List.map_append, List.map_append]; rfl
  rw [show (M.map fun m => Dv.tup [dF (fW D m.1), dis m.2]).length = M.length from List.length_map _, List.take_length, mtot]
  refine rns_cons (rn_set 9 (EvS.to (t' := ti (c.length : Nat)) (Ev.s (ev_len T.b_len (ev_nm 1 rfl) (.inl rfl))) (by rw [el])) (fun _ => sc__law_is_mix.nd)) ?_
  let cp : List (List Int) → Nat := fun l => (l.map fun r => r.countP fun s => decide (0 < (fW W s).1)).sum
  refine rns_cons (rn_for (EvI.s (evi_list (ev_nm 2 rfl) rfl)) (evg_nm 7 (fun _ => sc__law_is_mix.nd)) (fun j => [some (.fz (dMix D M)), some (.fz (dis c)), some (.fz (dSh W rows)), some (.ow ((M.map (·.2)).map fun d => .fz (dis d))), some (tF (fW D D)), some (.ow ((come D rows.length c.length M).map tRw)), none, none, none, some (ti ((c.length + cp (rows.take j) : Nat) : Int))]) rfl (fun _ => rfl) (fun j dj hdj => ?_)) ?_
  · obtain ⟨r, hr, rfl⟩ : ∃ r, rows[j]? = some r ∧ dj = dFs W r := by
      rw [List.getElem?_map] at hdj
      cases q : rows[j]? with
      | none => rw [q] at hdj; cases hdj
      | some m => rw [q] at hdj; cases hdj; exact ⟨m, rfl, rfl⟩
    have hrl := rlen r (List.mem_of_getElem? hr)
    have ec : cp (rows.take (j + 1)) = cp (rows.take j) + r.countP fun s => decide (0 < (fW W s).1) := by
      show ((rows.take (j + 1)).map _).sum = ((rows.take j).map _).sum + _
      rw [List.take_succ, hr, List.map_append, List.sum_append]; rfl
    refine ⟨_, _, rfl, rns_one (rn_set 9 (Ev.s (ev_add (ev_nm 9 rfl) (ev_len T.b_len (ev_lcf (own := ["_law_share"]) (fr := []) r (fun s => dF (fW W s)) (fun s => decide (0 < (fW W s).1)) (fun s => tF (fW W s)) (fun i => lcs ⟨rfl, rfl, by decide +kernel, by decide +kernel, by decide +kernel, by decide +kernel⟩) (evi_list (ev_nm 7 rfl) rfl) (evg_nm 0 (fun _ => by show List.Nodup (["_law_share"] : List Str); decide)) (by decide) (by omega) (fun s hs => ⟨_, rfl, by
      exact el_one (et_gt (ev_ixT (d := di (fW W s).1) (ev_nm 0 rfl) ev_int rfl rfl) ev_int), fun _ => by exact ev_nm 0 rfl⟩) (fun dd => by cases dd <;> rfl)) (.inl (er_ow_map _ _))))) (fun _ => sc__law_is_mix.nd)), [7], ?_⟩
    show [_, _, _, _, _, _, _, _, _, some (ti _)] = [_, _, _, _, _, _, _, _, _, some (ti _)]
    rw [ec, List.length_map, ← List.countP_eq_length_filter, ← Nat.add_assoc, Int.natCast_add (c.length + cp (rows.take j))]
  rw [show (rows.map (dFs W)).length = rows.length from List.length_map _, List.take_length]
  have ecome : er (.ow ((come D rows.length c.length M).map tRw)) = dSh W rows := by
    rw [er_ow_map]
    show Dv.lst _ = Dv.lst _
    congr 1
    refine List.ext_getElem (by unfold come; rw [List.length_map, List.length_map, nums_len, List.length_map]) fun a h1 h2 => ?_
    have ha : a < rows.length := by rw [List.length_map] at h2; exact h2
    rw [List.getElem_map, List.getElem_map, er_fzs]
    show Dv.lst _ = Dv.lst _
    congr 1
    have ga : (numsF rows.length)[a]'(by rw [nums_len]; exact ha) = (a : Int) := by
      have := nums_get (n := rows.length) (k := (a : Int)) (by omega) (by omega)
      rw [Int.toNat_natCast, List.getElem?_eq_getElem (by rw [nums_len]; exact ha)] at this
      exact Option.some.inj this
    unfold come
    rw [List.getElem_map, ga]
    have hrl := rlen rows[a] (List.getElem_mem ha)
    refine List.ext_getElem (by rw [List.length_map, nums_len, List.length_map, hrl]) fun x h3 h4 => ?_
    rw [List.length_map, nums_len] at h3
    have gx : (numsF (c.length + 1))[x]'(by rw [nums_len]; exact h3) = (x : Int) := by
      have := nums_get (n := c.length + 1) (k := (x : Int)) (by omega) (by omega)
      rw [Int.toNat_natCast, List.getElem?_eq_getElem (by rw [nums_len]; exact h3)] at this
      exact Option.some.inj this
    rw [List.getElem_map, List.getElem_map, gx]
    have := mx.wt a x (by omega) (by omega) (by omega) (by omega)
    rw [this]
    congr 2
    unfold lat
    rw [Int.toNat_natCast, Int.toNat_natCast, List.getD_eq_getElem?_getD, List.getD_eq_getElem?_getD, List.getElem?_eq_getElem ha]
    show (rows[a][x]?).getD 0 = _
    rw [List.getElem?_eq_getElem (by omega)]; rfl
  have mll := mx.ml
  refine rns_one (rn_ret (Ev.pk (t := tb true) (Ev.to (ev_and (ev_eqS (ev_nm 4 rfl) (ev_tup (eva_cons ev_int (eva_cons ev_int eva_nil)) (by show 2 ≤ sizeLine; decide)) (.inr ⟨_, _, rfl, rfl⟩) (Nat.le_trans (dpD_dF _) (by decide))) fun _ => (ev_and (ev_eqS (ev_nm 5 rfl) (ev_nm 2 rfl) (.inl ⟨_, _, ecome, rfl⟩) (by show dpD (er (.ow _)) ≤ 50; rw [ecome]; exact Nat.le_trans (dpD_sh W rows) (by decide))) fun _ => (ev_one (ev_le (ev_len T.b_len (ev_nm 0 rfl) (.inl rfl)) (ev_nm 9 rfl))))) ?_) True.intro))
  show tb (eqD (dF (fW D D)) (dF (1, 1)) && (eqD (er (.ow ((come D rows.length c.length M).map tRw))) (dSh W rows) && decide (((M.map fun m => Dv.tup [dF (fW D m.1), dis m.2]).length : Int) ≤ ((c.length + cp rows : Nat) : Int)))) = _
  rw [ecome, eqD_refl (okD_sh W rows), fW_self D0, el, decide_eq_true (by show (M.length : Int) ≤ ((c.length + cp rows : Nat) : Int); exact_mod_cast mll)]; rfl
end
end K35
namespace K35
open PySem L2 Fra
section
variable {P : Program} {w : World} {K : PySem.W.Frag} {mg : Str → Option Value} {base : Heap}
theorem uE_of {ι : Type} {F : Fam ι} {e : Expr} {ρ : En} {t : Tr} {σ : St} {G H : Hp} {Q : VK} (h : Ev F e ρ t) (s : Same G H) (r : RpD F.K G ρ σ) (k : Kv F.K G H t Q) : uE F e σ H Q := let ⟨τ, x, y⟩ := h; ⟨τ, x, y σ G H Q s r k⟩
theorem uT_of {ι : Type} {F : Fam ι} {e : Expr} {ρ : En} {b : Bool} {σ : St} {G H : Hp} {Q : Bool → Hp → Prop} (h : Et F e ρ b) (s : Same G H) (r : RpD F.K G ρ σ) (k : ∀ G' H', Step G H G' H' → Q b H') : uT F e σ H Q := let ⟨τ, x, y⟩ := h; ⟨τ, x, y σ G H Q s r k⟩
abbrev Rw := Addr × List V × List Dv
def gV (r : Rw × Bool) : List V := if r.2 then r.1.2.1 ++ [.int 0] else r.1.2.1
def gD (r : Rw × Bool) : List Dv := if r.2 then r.1.2.2 ++ [di 0] else r.1.2.2
def qsF (ps : List Rw) (i : Nat) : List (Rw × Bool) := (ps.take i).map (fun p => (p, true)) ++ (ps.drop i).map fun p => (p, false)
theorem qsF_fst (ps : List Rw) (i : Nat) : (qsF ps i).map (·.1) = ps := by
  unfold qsF
  rw [List.map_append, List.map_map, List.map_map]
  show (ps.take i).map id ++ (ps.drop i).map id = ps
  rw [List.map_id, List.map_id, List.take_append_drop]
theorem qsF_split {ps : List Rw} {i : Nat} {p : Rw} (h : ps[i]? = some p) : ∃ T B, qsF ps i = T ++ (p, false) :: B ∧ qsF ps (i + 1) = T ++ (p, true) :: B ∧ T.length = i := by
  have hi := (List.getElem?_eq_some_iff.mp h).1
  refine ⟨(ps.take i).map fun p => (p, true), (ps.drop (i + 1)).map fun p => (p, false), ?_, ?_, by rw [List.length_map, List.length_take]; omega⟩
  · unfold qsF
    rw [List.drop_eq_getElem_cons hi, (List.getElem?_eq_some_iff.mp h).2]; rfl
  · unfold qsF
    rw [take_get h, List.map_append, List.append_assoc]; rfl
theorem gD_hvl {K : PySem.W.Frag} {G H : Hp} (s : Same G H) {r : Rw × Bool} (h : HvL K G r.1.2.2 r.1.2.1) : HvL K H (gD r) (gV r) := by
  unfold gD gV
  split
  · exact HvL.reverse.HvL.app (h.mono s) ⟨.int 0, [], rfl, ⟨rfl, rfl⟩, rfl⟩
  · exact h.mono s
theorem hvl_qs {K : PySem.W.Frag} {G H : Hp} (s : Same G H) : ∀ qs : List (Rw × Bool), (∀ r ∈ qs, H r.1.1 = some (.lst (gV r)) ∧ HvL K G r.1.2.2 r.1.2.1) → HvL K H (qs.map fun r => .lst (gD r)) (qs.map fun r => V.ref r.1.1)
  | [], _ => rfl
  | r :: qs, h => ⟨.ref r.1.1, _, rfl, ⟨r.1.1, _, rfl, SqL.of (h r (.head _)).1, gD_hvl s (h r (.head _)).2⟩, hvl_qs s qs fun r' hr' => h r' (.tail _ hr')⟩
abbrev s__law_alone : Stmt := top 41
theorem sc__law_alone : FnScope ["_law_lists", "_law_sizes", "_law_k"] ["_law_lists"] (defScope s__law_alone) := ⟨rfl, rfl, rfl, by decide +kernel, rfl, by decide +kernel, by decide +kernel⟩
def spAlone (K : PySem.W.Frag) : Sp := fun vs H Q _ => ∃ (l : Addr) (G : Hp) (ps : List Rw), vs = [.ref l] ∧ Same G H ∧ H l = some (.lst (ps.map fun p => V.ref p.1)) ∧ (l :: ps.map (·.1)).Nodup ∧ (∀ p ∈ ps, G p.1 = none ∧ H p.1 = some (.lst p.2.1) ∧ HvL K G p.2.2 p.2.1 ∧ p.2.1.length ≤ 100) ∧ ps.length ≤ 100 ∧ ∀ H', Md (ps.map (·.1)) H H' → Q (.bl true) H'
def szs (qs : List (Rw × Bool)) : List Int := qs.map fun r => ((gD r).length : Int)
theorem ok__law_alone {f : Addr} {fd : FuncData} {k : Nat} (F : Fun K "_law_alone" "_law_alone" s__law_alone f fd) (T : Txt mg) : FnOk P w K mg base CX0 (k + 1) f fd ["_law_lists"] (spAlone K) := by
  refine F.ok sc__law_alone (fun vs H Q E h => by obtain ⟨_, _, _, rfl, _⟩ := h; rfl) fun cdv A outer s H vs Q E hr h => ?_
  obtain ⟨l, G, ps, rfl, sGH, hl, nd, hps, hn, fin⟩ := h
  have big : 1000 < sizeLine := by decide
  have q0 : qsF ps 0 = ps.map fun p => (p, false) := rfl
  have eref : ∀ i, ((qsF ps i).map fun r => V.ref r.1.1) = ps.map fun p => V.ref p.1 := fun i => by
    conv => rhs; rw [← qsF_fst ps i]
    rw [List.map_map]; rfl
  have ql : ∀ i, (qsF ps i).length = ps.length := fun i => by
    conv => rhs; rw [← qsF_fst ps i]
    rw [List.length_map]
  have esz : ∀ qs : List (Rw × Bool), er (.ow (qs.map fun r => ti ((gD r).length : Int))) = dis (szs qs) := fun qs => by
    rw [er_ow_map]
    unfold szs
    show Dv.lst _ = Dv.lst (List.map _ (List.map _ _))
    rw [List.map_map]; rfl
  obtain ⟨τ1, x1, y1⟩ : ∃ τ, (∀ i, PS ((famD P w K mg base ["_law_lists", "_law_sizes", "_law_k"] "_law_alone" (defScope s__law_alone) f k).cx i) ((defBody s__law_alone).getD 0 (.Pass ⟨0, 0, 0, 0⟩)) τ) ∧ ∀ D σ G H, Same G H → RpD K G [some (.fz (.lst ((qsF ps 0).map fun r => .lst (gD r)))), none, none] σ → (∀ v G' H' fq, Step G H G' H' → Ow K G' H' (.ow ((qsF ps 0).map fun r => ti ((gD r).length : Int))) v fq → Nw H G' fq → D.nx (σ.set 1 (some v)) H') → τ D σ H :=
    lc_put 1 (elcm (own := ["_law_some"]) (fr := []) (qsF ps 0) (fun r => .lst (gD r)) (fun r => ti ((gD r).length : Int)) (evi_list (ev_nm 0 rfl) rfl) (evg_nm 0 (fun _ => by show List.Nodup (["_law_some"] : List Str); decide)) (by decide) (by rw [ql]; omega) (fun p hp => ⟨_, rfl, by exact ev_len T.b_len (ev_nm 0 rfl) (.inl rfl)⟩) (fun dd => by cases dd <;> rfl)) (fun i => lcs ⟨rfl, rfl, by decide +kernel, by decide +kernel, by decide +kernel, by decide +kernel⟩) (fun _ => sc__law_alone.nd)
  refine ⟨_, pss_cons (x1 ⟨cdv, A, outer, s, H, E, hr⟩) (pss_cons (ps_for PassesOwn.never rfl (pi_range1 (by rfl) T.b_range (pa_cons (uE_ok (F := famD P w K mg base ["_law_lists", "_law_sizes", "_law_k"] "_law_alone" (defScope s__law_alone) f k) ⟨cdv, A, outer, s, H, E, hr⟩) pa_nil)) (pg_name (i := 2) sc__law_alone.nd rfl (by first | exact Or.inl rfl | exact Or.inr rfl))
    (pss_cons (ps_expr (pe_bm PySem.F.plainAttrs_list PySem.F.slot_list_append PySem.F.type_list_append mt_append (pe_ix ix_list (pv 0) (pv 2) (fun _ _ => rfl)) (pa_cons pe_int pa_nil)))
    (pss_cons (ps_asg (pe_op op_add (pe_ix ix_list (pv 1) (pv 2) (fun _ _ => rfl)) pe_int) (pg_sub (pv 1) (pv 2) set_list))
    (pss_one (ps_if (uT_ok (F := famD P w K mg base ["_law_lists", "_law_sizes", "_law_k"] "_law_alone" (defScope s__law_alone) f k) ⟨cdv, A, outer, s, H, E, hr⟩) (pss_one (ps_ret pe_bl)) pss_nil))))) (pss_one (ps_ret pe_bl))), ?_⟩
  show tSeq _ _ _ [some (.ref l), none, none] H
  have ndl := List.nodup_cons.mp nd
  have hcs : ∀ p ∈ ps, p.1 ∈ ps.map (·.1) := fun p hp => List.mem_map_of_mem (f := (·.1)) hp
  have mem_ps : ∀ {i : Nat} {r : Rw × Bool}, r ∈ qsF ps i → r.1 ∈ ps := fun {i r} h => by
    rw [← qsF_fst ps i]; exact List.mem_map_of_mem (f := (·.1)) h
  have hv0 : ∀ {i : Nat} {Hc : Hp}, Same G Hc → (∀ r ∈ qsF ps i, Hc r.1.1 = some (.lst (gV r))) → HvL K Hc ((qsF ps i).map fun r => .lst (gD r)) (ps.map fun p => V.ref p.1) := fun {i Hc} sg h => by
    rw [← eref i]
    exact hvl_qs sg _ fun r hr => ⟨h r hr, (hps r.1 (mem_ps hr)).2.2.1⟩
  have h00 : ∀ r ∈ qsF ps 0, H r.1.1 = some (.lst (gV r)) := fun r hr => by
    rw [q0] at hr
    obtain ⟨p, hp, rfl⟩ := List.mem_map.mp hr
    exact (hps p hp).2.1
  refine y1 _ _ H H (Same.refl _) (OwS.rpd (H := H) (fp := []) ⟨.ref l, _, [], [], rfl, rfl, ⟨rfl, l, _, rfl, SqL.of hl, hv0 sGH h00⟩, none, _, rfl, none, _, rfl, rfl, rfl⟩) fun v1 G1 H1 fq1 s1 o1 w1 => ?_
  obtain ⟨q, xs, fx, rfl, hq, ox, rfl⟩ := o1
  have hq0 : H q = none := w1.n q (.head _)
  have ox' : OwL K G1 H1 ((szs (qsF ps 0)).map fun n => .fz (di n)) xs fx := by
    unfold szs
    rw [List.map_map]; exact ox
  obtain ⟨rfl, _⟩ := ints_ow ox'
  have qcs : q ∉ ps.map (·.1) := fun z => by
    obtain ⟨p, hp, e⟩ := List.mem_map.mp z
    have := (hps p hp).2.1
    rw [e, hq0] at this; cases this
  have lq : l ≠ q := fun z => by rw [z, hq0] at hl; cases hl
  have lcs' : l ∉ q :: ps.map (·.1) := fun z => (List.mem_cons.mp z).elim lq ndl.1
  have sG1 : Same G H1 := sGH.trans s1.h
  have gq : G q = none := sGH.free hq0
  have Gout : ∀ {Hc : Hp}, Md (q :: ps.map (·.1)) H1 Hc → Same G Hc := fun {Hc} md b o hb => md b o (fun z => by
    rcases List.mem_cons.mp z with z | z
    · rw [z, gq] at hb; cases hb
    · obtain ⟨p, hp, e⟩ := List.mem_map.mp z
      rw [← e, (hps p hp).1] at hb; cases hb) (sG1 b o hb)
  have hl1 := s1.h _ _ hl
  show tSeq _ _ _ [some (.ref l), some (.ref q), none] H1
  have h01 : ∀ r ∈ qsF ps 0, H1 r.1.1 = some (.lst (gV r)) := fun r hr => s1.h _ _ (h00 r hr)
  refine uE_of (ρ := [some (.fz (.lst ((qsF ps 0).map fun r => .lst (gD r)))), none, none]) (ev_len T.b_len (ev_nm 0 rfl) (.inl rfl)) (Same.refl H1) (OwS.rpd (H := H1) (fp := []) ⟨.ref l, _, [], [], rfl, rfl, ⟨rfl, l, _, rfl, SqL.of hl1, hv0 sG1 h01⟩, some (.ref q), _, rfl, none, _, rfl, rfl, rfl⟩) fun vl G2 H2 fq2 s2 o2 w2 => ?_
  have en : (((qsF ps 0).map fun r => Dv.lst (gD r)).length : Int) = ps.length := by rw [List.length_map, ql]
  refine ⟨_, by rw [hvi o2.2], by rw [en]; omega, by rw [en]; omega, ?_⟩
  rw [en, Int.toNat_natCast]
  refine for_range (fun i σ' Hc => (∃ u, σ' = [some (.ref l), some (.ref q), u]) ∧ Md (q :: ps.map (·.1)) H1 Hc ∧ Hc q = some (.lst ((szs (qsF ps i)).map V.int)) ∧ ∀ r ∈ qsF ps i, Hc r.1.1 = some (.lst (gV r)))
    ⟨⟨none, rfl⟩, .same s2.h, s2.h _ _ hq, fun r hr => s2.h _ _ (h01 r hr)⟩ ?_ ?_
  · rintro i σ' Hc hi ⟨⟨u, rfl⟩, md, hqc, hrows⟩
    have hp : ps[i]? = some ps[i] := List.getElem?_eq_getElem hi
    generalize ps[i] = p at hp
    have hpm := List.mem_of_getElem? hp
    obtain ⟨T', B, e0, e1, tl⟩ := qsF_split hp
    rw [e0] at hrows hqc
    have hc : Hc p.1 = some (.lst p.2.1) := hrows (p, false) (List.mem_append_right _ (.head _))
    have hlc := md l _ lcs' hl1
    have hat : atI (ps.map fun p => V.ref p.1) (0 + (i : Int)) = some (.ref p.1) := by
      rw [Int.zero_add]
      exact atI_nat (by rw [List.getElem?_map, hp]; rfl)
    have pq : p.1 ≠ q := fun z => qcs (z ▸ hcs p hpm)
    have hlen := (hps p hpm).2.2.2
    refine ⟨_, rfl, _, rfl, l, _, _, .ref p.1, rfl, rfl, SqL.of hlc, hat, .inl ⟨rfl, _, SqL.of hc⟩, p.1, _, _, rfl, rfl, hc, by omega, ?_⟩
    have hqc2 : upd Hc p.1 (.lst (p.2.1 ++ [.int 0])) q = some (.lst ((szs (T' ++ (p, false) :: B)).map V.int)) := by rw [upd_ne (Ne.symm pq)]; exact hqc
    have hszi : atI ((szs (T' ++ (p, false) :: B)).map V.int) (0 + (i : Int)) = some (.int (p.2.2.length : Int)) := by
      rw [Int.zero_add]
      refine atI_nat ?_
      unfold szs
      rw [List.map_append, List.map_append, List.getElem?_append_right (by rw [List.length_map, List.length_map]; omega), List.length_map, List.length_map, tl, Nat.sub_self]; rfl
    have hset : ((szs (T' ++ (p, false) :: B)).map V.int).set i (.int ((p.2.2.length : Int) + 1)) = (szs (T' ++ (p, true) :: B)).map V.int := by
      unfold szs
      rw [List.map_append, List.map_append, List.map_append, List.map_append, List.set_append_right _ _ (by rw [List.length_map, List.length_map]; omega), List.length_map, List.length_map, tl, Nat.sub_self]
      show _ ++ V.int ((p.2.2.length : Int) + 1) :: _ = _ ++ V.int (((p.2.2 ++ [di 0]).length : Nat) : Int) :: _
      rw [List.length_append]; rfl
    have hix : ixN ((szs (T' ++ (p, false) :: B)).map V.int).length (0 + (i : Int)) = some i := by
      have hll : ((szs (T' ++ (p, false) :: B)).map V.int).length = ps.length := by
        rw [List.length_map]; unfold szs; rw [List.length_map, ← e0, ql]
      rw [hll]
      unfold ixN
      rw [if_pos (by omega), if_pos (by omega)]
      congr 1
      omega
    refine ⟨_, rfl, _, rfl, q, _, _, _, rfl, rfl, SqL.of hqc2, hszi, _, _, rfl, rfl, ?_⟩
    refine ⟨_, rfl, _, rfl, q, _, _, i, rfl, rfl, hqc2, hix, ?_⟩
    rw [hset]
    have md2 : Md (q :: ps.map (·.1)) H1 (upd (upd Hc p.1 (.lst (p.2.1 ++ [.int 0]))) q (.lst ((szs (T' ++ (p, true) :: B)).map V.int))) := (md.trans (.upd (.tail _ (hcs p hpm)))).trans (.upd (.head _))
    have hrows2 : ∀ r ∈ qsF ps (i + 1), upd (upd Hc p.1 (.lst (p.2.1 ++ [.int 0]))) q (.lst ((szs (T' ++ (p, true) :: B)).map V.int)) r.1.1 = some (.lst (gV r)) := fun r hr => by
      have rq : r.1.1 ≠ q := fun z => qcs (z ▸ hcs _ (mem_ps hr))
      rw [upd_ne rq]
      have nds : (((T' ++ (p, false) :: B).map (·.1)).map (·.1)).Nodup := by rw [← e0, qsF_fst]; exact ndl.2
      rw [List.map_append, List.map_append, List.map_cons, List.map_cons] at nds
      obtain ⟨_, n2, n3⟩ := List.nodup_append.mp nds
      rw [e1] at hr
      rcases List.mem_append.mp hr with z | z
      · have ne : r.1.1 ≠ p.1 := fun e => n3 r.1.1 (List.mem_map_of_mem (f := (·.1)) (List.mem_map_of_mem (f := (·.1)) z)) p.1 (.head _) e
        rw [upd_ne ne]
        exact hrows r (List.mem_append_left _ z)
      · rcases List.mem_cons.mp z with rfl | z
        · rw [upd_same]; rfl
        · have ne : r.1.1 ≠ p.1 := fun e => (List.nodup_cons.mp n2).1 (e ▸ List.mem_map_of_mem (f := (·.1)) (List.mem_map_of_mem (f := (·.1)) z))
          rw [upd_ne ne]
          exact hrows r (List.mem_append_right _ (.tail _ z))
    rw [← e1] at md2 hrows2 ⊢
    generalize hH3 : upd (upd Hc p.1 (.lst (p.2.1 ++ [.int 0]))) q (.lst ((szs (qsF ps (i + 1))).map V.int)) = H3 at md2 hrows2
    have hq3 : H3 q = some (.lst ((szs (qsF ps (i + 1))).map V.int)) := by rw [← hH3, upd_same]
    refine uT_of (ρ := [some (.fz (.lst ((qsF ps (i + 1)).map fun r => .lst (gD r)))), some (.fz (dis (szs (qsF ps (i + 1))))), none]) (et_neS (ev_lcm (own := ["_law_some"]) (fr := []) (qsF ps (i + 1)) (fun r => .lst (gD r)) (fun r => ti ((gD r).length : Int)) (fun i => lcs ⟨rfl, rfl, by decide +kernel, by decide +kernel, by decide +kernel, by decide +kernel⟩) (evi_list (ev_nm 0 rfl) rfl) (evg_nm 0 (fun _ => by show List.Nodup (["_law_some"] : List Str); decide)) (by decide) (by rw [ql]; omega) (fun p hp => ⟨_, rfl, by exact ev_len T.b_len (ev_nm 0 rfl) (.inl rfl)⟩) (fun dd => by cases dd <;> rfl)) (ev_nm 1 rfl) (.inl ⟨_, _, esz _, rfl⟩) (by rw [esz]; exact Nat.le_trans (dpD_dis _) (by decide))) (Same.refl H3) (OwS.rpd (H := H3) (fp := []) ⟨.ref l, _, [], [], rfl, rfl, ⟨rfl, l, _, rfl, SqL.of (md2 l _ lcs' hl1), hv0 (Gout md2) hrows2⟩, .ref q, _, [], [], rfl, rfl, ⟨rfl, q, _, rfl, SqL.of hq3, ints_hvl⟩, _, _, rfl, rfl, rfl⟩) fun G' H' st => ?_
    rw [esz]
    show if (!eqD (dis (szs (qsF ps (i + 1)))) (dis (szs (qsF ps (i + 1))))) = true then _ else _
    rw [eqD_refl (okD_dis _)]
    refine iteF ⟨⟨_, rfl⟩, md2.trans (.same st.h), st.h _ _ hq3, fun r hr => st.h _ _ (hrows2 r hr)⟩
  · rintro σ' Hc ⟨⟨u, rfl⟩, md, _, _⟩
    refine fin Hc fun b o nb hb => md b o (fun z => ?_) (s1.h b o hb)
    rcases List.mem_cons.mp z with z | z
    · rw [z, hq0] at hb; cases hb
    · exact nb z
end
end K35
namespace K35
open PySem L2 Fra
section
variable {P : Program} {w : World} {K : PySem.W.Frag} {mg : Str → Option Value} {base : Heap}
theorem fz_ow {K : PySem.W.Frag} {G H : Hp} : ∀ {ds : List Dv} {xs : List V} {fx : List Addr}, OwL K G H (ds.map .fz) xs fx → HvL K G ds xs ∧ fx = []
  | [], _, _, ⟨h1, h2⟩ => ⟨h1, h2⟩
  | d :: ds, _, _, ⟨v, r, f1, f2, h1, h2, ⟨h3, h3'⟩, h4⟩ => by
    obtain ⟨e1, e2⟩ := fz_ow h4
    subst h1 h2 h3 e2
    exact ⟨⟨v, r, rfl, h3', e1⟩, rfl⟩
theorem rows_fz {K : PySem.W.Frag} {G H : Hp} : ∀ {rs : List (List Dv)} {vs : List V} {fq : List Addr}, OwL K G H (rs.map fun ds => .ow (ds.map .fz)) vs fq → ∃ ps : List Rw, vs = ps.map (fun p => V.ref p.1) ∧ fq = ps.map (·.1) ∧ ps.map (fun p => p.2.2) = rs ∧ ∀ p ∈ ps, H p.1 = some (.lst p.2.1) ∧ HvL K G p.2.2 p.2.1
  | [], _, _, ⟨h1, h2⟩ => ⟨[], h1, h2, rfl, fun _ z => nomatch z⟩
  | ds :: rs, _, _, ⟨v, r, f1, f2, h1, h2, ⟨a, xs, fa, g1, g2, g3, g4⟩, h4⟩ => by
    obtain ⟨ps, e1, e2, e3, e4⟩ := rows_fz h4
    obtain ⟨i1, i2⟩ := fz_ow g3
    subst h1 h2 e1 e2 g1 g4 i2
    refine ⟨(a, xs, ds) :: ps, rfl, rfl, by rw [List.map_cons, e3], fun p hp => ?_⟩
    rcases List.mem_cons.mp hp with rfl | hp
    · exact ⟨g2, i1⟩
    · exact e4 p hp
section
variable {ι : Type} {F : Fam ι} {ρ ρ' : En} {o : Out} {rest : List Stmt}
theorem rns_two {s1 s2 : Stmt} {τ1 τ2 : TS} (p1 : ∀ i, PS (F.cx i) s1 τ1) (p2 : ∀ i, PS (F.cx i) s2 τ2) (h : Sm1 F.K (tSeq τ1 τ2) ρ (.nx ρ')) (hr : Rns F rest ρ' o) : Rns F (s1 :: s2 :: rest) ρ o := by
  obtain ⟨τ, x, y⟩ := hr
  refine ⟨tSeq τ1 (tSeq τ2 τ), fun i => pss_cons (p1 i) (pss_cons (p2 i) (x i)), fun D σ G0 H0 G H r k => ?_⟩
  exact h { D with nx := τ D } σ G0 H0 G H r fun σ' G' H' r' => y D σ' G0 H0 G' H' r' k
end
theorem mx_own {K : PySem.W.Frag} {G H : Hp} : ∀ {M : List ((Int × Int) × List Int)} {vs : List V} {fq : List Addr}, OwL K G H (M.map tMx) vs fq → ∃ qs : List (Addr × V × Rw), vs = qs.map (fun q => V.ref q.1) ∧ fq = qs.flatMap (fun q => [q.1, q.2.2.1]) ∧ qs.map (fun q => q.2.2.2.1.length) = M.map (fun m => m.2.length) ∧ ∀ q ∈ qs, H q.1 = some (.tup [q.2.1, .ref q.2.2.1]) ∧ H q.2.2.1 = some (.lst q.2.2.2.1) ∧ HvL K G q.2.2.2.2 q.2.2.2.1
  | [], _, _, ⟨h1, h2⟩ => ⟨[], h1, h2, rfl, fun _ z => nomatch z⟩
  | m :: M, _, _, ⟨v, r, f1, f2, h1, h2, ⟨t0, ws, fw, g1, g2, g3, g4⟩, h4⟩ => by
    obtain ⟨qs, e1, e2, e3, e4⟩ := mx_own h4
    obtain ⟨a1, r1, k1, k2, rfl, rfl, ⟨rfl, _⟩, a2, r2, k3, k4, rfl, rfl, ⟨d0, xs, fx, rfl, hd0, ox, rfl⟩, rfl, rfl⟩ := g3
    obtain ⟨rfl, rfl⟩ := ints_ow ox
    subst h1 h2 e1 e2 g1 g4
    refine ⟨(t0, a1, d0, m.2.map V.int, m.2.map di) :: qs, rfl, rfl, by rw [List.map_cons, List.map_cons, e3, List.length_map], fun q hq => ?_⟩
    rcases List.mem_cons.mp hq with rfl | hq
    · exact ⟨g2, hd0, ints_hvl⟩
    · exact e4 q hq
theorem lc_deals {K : PySem.W.Frag} {σ : St} {H : Hp} {Q : VK} {lx : Addr} {qs : List (Addr × V × Rw)} (hσ : σ[5]? = some (some (.ref lx))) (hl : H lx = some (.lst (qs.map fun q => V.ref q.1))) (ht : ∀ q ∈ qs, H q.1 = some (.tup [q.2.1, .ref q.2.2.1])) (hz : qs.length ≤ 100) (k : ∀ acc, H acc = none → Q (.ref acc) (upd H acc (.lst (qs.map fun q => V.ref q.2.2.1)))) :
    tLc (iList K (tVar 5)) (gTup K 2 (gCons (gName 0) (gCons (gName 1) gNil))) (fun _ H Q => Q true H) (tVar 1) ["_law_weight", "_law_deal_here"] [] σ H Q := by
  have big : 1000 < sizeLine := by decide
  refine ⟨_, hσ, lx, rfl, ⟨_, SqL.of hl⟩, fun acc hacc => ?_⟩
  have lne : lx ≠ acc := fun z => by rw [z, hacc] at hl; cases hl
  have tne : ∀ q ∈ qs, q.1 ≠ acc := fun q hq z => by have := ht q hq; rw [z, hacc] at this; cases this
  have sq : ∀ ys, SqL K (upd H acc (.lst ys)) lx (qs.map fun q => V.ref q.1) := fun ys => SqL.of (by rw [upd_ne lne]; exact hl)
  refine ⟨fun i m ys σ1 H2 => m = qs.length - i ∧ i ≤ qs.length ∧ ys = ((qs.take i).map fun q => V.ref q.2.2.1) ∧ H2 = upd H acc (.lst ys) ∧ σ1.length = 2, ⟨_, rfl, Nat.zero_le _, rfl, rfl, rfl⟩, ?_⟩
  rintro i m ys σ1 H2 ⟨rfl, hi, rfl, rfl, hs⟩
  refine ⟨upd_same, by rw [List.length_map, List.length_take]; omega, ?_⟩
  by_cases hlt : i < qs.length
  · have hq : qs[i]? = some qs[i] := List.getElem?_eq_getElem hlt
    have hm : qs[i] ∈ qs := List.getElem_mem hlt
    generalize qs[i] = q at hq hm
    have hv : (qs.map fun q => V.ref q.1)[i]? = some (.ref q.1) := by rw [List.getElem?_map, hq]; rfl
    refine .inr ⟨⟨_, _, sq _, hv⟩, fun zs σ2 H3 => zs = ((qs.take (i + 1)).map fun q => V.ref q.2.2.1) ∧ H3 = upd H acc (.lst zs) ∧ σ2.length = 2, fun zs σ2 H3 z => ⟨qs.length - (i + 1), by omega, rfl, hlt, z.1, z.2.1, z.2.2⟩, ?_⟩
    rintro x H3 ⟨rfl, hx⟩
    have hx' := hx _ (sq _)
    rw [hv] at hx'
    cases hx'
    refine ⟨q.1, [q.2.1, .ref q.2.2.1], rfl, SqT.of (by rw [upd_ne (tne q hm)]; exact ht q hm), rfl, q.2.1, [.ref q.2.2.1], rfl, .ref q.2.2.1, [], rfl, rfl, iteT ⟨.ref q.2.2.1, ?_, upd_same, ?_, upd_upd, ?_⟩⟩
    · rw [List.getElem?_set]
      rw [if_pos rfl, if_pos (by rw [List.length_set]; omega)]
    · rw [List.take_succ, hq, List.map_append]; rfl
    · rw [List.length_set, List.length_set]; exact hs
  · have e : i = qs.length := by omega
    subst e
    refine .inl ⟨⟨_, sq _, by rw [List.length_map]; exact Nat.le_refl _⟩, ?_⟩
    rw [List.take_length]
    exact k acc hacc
theorem OwS.two {K : PySem.W.Frag} {G0 H0 G H : Hp} {ρ : En} {σ : St} {fp : List Addr} {i j : Nat} {s t : Tr} (r : RSf K G0 H0 G H ρ σ fp) (hij : i ≠ j) (hi : ρ[i]? = some (some s)) (hj : ρ[j]? = some (some t)) :
    ∃ v f u g, σ[i]? = some (some v) ∧ Ow K G H s v f ∧ σ[j]? = some (some u) ∧ Ow K G H t u g ∧ (f ++ g).Nodup ∧ (∀ a ∈ f ++ g, G a = none) ∧ ∀ H2, Md (f ++ g) H H2 → RS K G0 H0 G H2 ((ρ.set i none).set j none) σ := by
  obtain ⟨v, f, fr, q1, q2, q3, q4⟩ := r.own.split hi
  obtain ⟨u, g, fs, p1, p2, p3, p4⟩ := q3.split (j := j) (by rw [List.getElem?_set_ne hij]; exact hj)
  have pm : fp.Perm ((f ++ g) ++ fs) := q4.trans (by rw [List.append_assoc]; exact List.Perm.append_left f p4)
  have nda := List.nodup_append.mp (pm.nodup_iff.mp r.d)
  have qfp : ∀ a ∈ f ++ g, a ∈ fp := fun a ha => pm.mem_iff.mpr (List.mem_append_left _ ha)
  have rfp : ∀ a ∈ fs, a ∈ fp := fun a ha => pm.mem_iff.mpr (List.mem_append_right _ ha)
  refine ⟨v, f, u, g, q1, q2, p1, p2, nda.1, fun a ha => r.g a (qfp a ha), fun H2 m => ⟨fs, ⟨r.st.g, fun b o hb => m b o (fun z => ?_) (r.st.h b o hb), fun b o hb => m b o (fun z => ?_) (r.st.s b o hb), r.st.n⟩, p3.agree fun a ha => ?_, fun a ha => r.g a (rfp a ha), fun a ha => r.n a (rfp a ha), nda.2.1⟩⟩
  · rw [r.n b (qfp b z)] at hb; cases hb
  · rw [r.g b (qfp b z)] at hb; cases hb
  · obtain ⟨o, ho⟩ := p3.there a ha
    rw [m a o (fun z => nda.2.2 a z a ha rfl) ho, ho]
abbrev tHnd (W : Int) (c : List Int) (rows : List (List Int)) : Tr := .ow [tInts c, .ow ((rows.map fun r => r.map fun s => dF (fW W s)).map fun ds => .ow (ds.map .fz))]
theorem sem_alone {G0 H0 G H : Hp} {ρ : En} {σ : St} {D : Ends} {tR : TS} {W : Int} {c : List Int} {rows : List (List Int)} {M : List ((Int × Int) × List Int)} (h4 : ρ[4]? = some (some (tHnd W c rows))) (h5 : ρ[5]? = some (some (.ow (M.map tMx)))) (hM : M.length ≤ 48) (hd : ∀ m ∈ M, m.2.length ≤ 100) (hr : rows.length ≤ 6) (hl : ∀ r ∈ rows, r.length ≤ 100)
    (r : RS K G0 H0 G H ρ σ) (k : ∀ σ' G' H', RS K G0 H0 G' H' ((ρ.set 4 none).set 5 none) σ' → D.nx σ' H') :
    tSeq (tIfS (tNot (tB (tCall (spAlone K) [] E0 (tCons (tOp rCat (tLc (iList K (tVar 5)) (gTup K 2 (gCons (gName 0) (gCons (gName 1) gNil))) (fun _ H Q => Q true H) (tVar 1) ["_law_weight", "_law_deal_here"] []) (tOp (rIxL K) (tVar 4) (tC (.int 1)))) tNil)))) tR tNext) (tDrop (tBM0 K "list" rClear (tVar 5))) D σ H := by
  have big : 1000 < sizeLine := by decide
  obtain ⟨fp, r⟩ := r
  obtain ⟨v, f, u, g, q1, q2, p1, p2, nd, hg, q⟩ := OwS.two r (by decide : (4 : Nat) ≠ 5) h4 h5
  obtain ⟨lh, vh, fh, rfl, hh, oh, rfl⟩ := q2
  obtain ⟨lx, vx, fx, rfl, hx, ox, rfl⟩ := p2
  obtain ⟨qs, rfl, rfl, e3, e4⟩ := mx_own ox
  obtain ⟨v1, r1, f1, f2, rfl, rfl, ⟨lc, vc, fc, rfl, hc, oc, rfl⟩, v2, r2, f3, f4, rfl, rfl, ⟨lr, vr, frr, rfl, hrr, orr, rfl⟩, rfl, rfl⟩ := oh
  obtain ⟨ps, rfl, rfl, i3, i4⟩ := rows_fz orr
  have lq : qs.length ≤ 48 := by
    have := congrArg List.length e3
    rw [List.length_map, List.length_map] at this
    omega
  have lp : ps.length ≤ 6 := by
    have := congrArg List.length i3
    rw [List.length_map, List.length_map] at this
    omega
  dsimp only [tSeq, tIfS, tNot, tB, tCall, tCons, tOp]
  refine lc_deals p1 hx (fun x hx' => (e4 x hx').1) (by omega) fun acc hacc => ?_
  have same1 : Same H (upd H acc (.lst (qs.map fun q => V.ref q.2.2.1))) := Same.new hacc
  have ac1 : upd H acc (.lst (qs.map fun q => V.ref q.2.2.1)) acc = some (.lst (qs.map fun q => V.ref q.2.2.1)) := upd_same
  generalize upd H acc (.lst (qs.map fun q => V.ref q.2.2.1)) = H1 at same1 ac1
  refine ⟨_, q1, lh, _, 1, .ref lr, rfl, rfl, SqL.of (same1 _ _ hh), atI_nat (j := 1) rfl, acc, lr, _, _, rfl, rfl, ac1, same1 _ _ hrr, by rw [List.length_map, List.length_map]; omega, fun p hp => ?_⟩
  have same2 : Same H (upd H1 p (.lst ((qs.map fun q => V.ref q.2.2.1) ++ ps.map fun p => V.ref p.1))) := same1.trans (Same.new hp)
  have ac2 : upd H1 p (.lst ((qs.map fun q => V.ref q.2.2.1) ++ ps.map fun p => V.ref p.1)) p = some (.lst ((qs.map fun q => V.ref q.2.2.1) ++ ps.map fun p => V.ref p.1)) := upd_same
  have pnone : H p = none := same1.free hp
  generalize upd H1 p (.lst ((qs.map fun q => V.ref q.2.2.1) ++ ps.map fun p => V.ref p.1)) = H2 at same2 ac2
  let all : List Rw := (qs.map fun q => q.2.2) ++ ps
  have eall : (all.map fun p => V.ref p.1) = (qs.map fun q => V.ref q.2.2.1) ++ ps.map fun p => V.ref p.1 := by
    show ((qs.map fun q => q.2.2) ++ ps).map _ = _
    rw [List.map_append, List.map_map]; rfl
  have emap : all.map (·.1) = (qs.map fun q => q.2.2.1) ++ ps.map (·.1) := by
    show ((qs.map fun q => q.2.2) ++ ps).map _ = _
    rw [List.map_append, List.map_map]; rfl
  have sub : ∀ a ∈ all.map (·.1), a ∈ lh :: ((lc :: fc) ++ ((lr :: ps.map (·.1)) ++ [])) ++ lx :: qs.flatMap fun q => [q.1, q.2.2.1] := fun a ha => by
    rw [emap] at ha
    rcases List.mem_append.mp ha with z | z
    · obtain ⟨q, hq, rfl⟩ := List.mem_map.mp z
      exact List.mem_append_right _ (.tail _ (List.mem_flatMap.mpr ⟨q, hq, .tail _ (.head _)⟩))
    · exact List.mem_append_left _ (.tail _ (List.mem_append_right _ (List.mem_append_left _ (.tail _ z))))
  have there : ∀ a ∈ all.map (·.1), ∃ o, H a = some o := fun a ha => by
    rw [emap] at ha
    rcases List.mem_append.mp ha with z | z
    · obtain ⟨q, hq, rfl⟩ := List.mem_map.mp z
      exact ⟨_, (e4 q hq).2.1⟩
    · obtain ⟨q, hq, rfl⟩ := List.mem_map.mp z
      exact ⟨_, (i4 q hq).1⟩
  have nd1 := List.nodup_append.mp nd
  have ndx := List.nodup_cons.mp nd1.2.1
  have ndq : (qs.map fun q => q.2.2.1).Nodup := by
    have : ∀ {l : List (Addr × V × Rw)}, (l.flatMap fun q => [q.1, q.2.2.1]).Nodup → (l.map fun q => q.2.2.1).Nodup := fun {l} => by
      induction l with
      | nil => exact fun _ => .nil
      | cons x l ih =>
        intro h
        have h' : ([x.1, x.2.2.1] ++ l.flatMap fun q => [q.1, q.2.2.1]).Nodup := by rw [List.flatMap_cons] at h; exact h
        have h2 := List.nodup_append.mp h'
        refine List.nodup_cons.mpr ⟨fun z => ?_, ih h2.2.1⟩
        obtain ⟨y, hy, ey⟩ := List.mem_map.mp z
        have ey : y.2.2.1 = x.2.2.1 := ey
        exact h2.2.2 x.2.2.1 (.tail _ (.head _)) x.2.2.1 (List.mem_flatMap.mpr ⟨y, hy, by rw [← ey]; exact .tail _ (.head _)⟩) rfl
    exact this ndx.2
  have ndp : (ps.map (·.1)).Nodup := by
    have h1 := (List.nodup_cons.mp nd1.1).2
    have h2 := (List.nodup_append.mp h1).2.1
    rw [List.append_nil] at h2
    exact (List.nodup_cons.mp h2).2
  have ndall : (p :: all.map (·.1)).Nodup := by
    refine List.nodup_cons.mpr ⟨fun z => ?_, ?_⟩
    · obtain ⟨o, ho⟩ := there p z
      rw [pnone] at ho; cases ho
    · rw [emap]
      refine List.nodup_append.mpr ⟨ndq, ndp, fun a ha b hb e => ?_⟩
      obtain ⟨q, hq, rfl⟩ := List.mem_map.mp ha
      exact nd1.2.2 b (.tail _ (List.mem_append_right _ (List.mem_append_left _ (.tail _ hb)))) q.2.2.1 (.tail _ (List.mem_flatMap.mpr ⟨q, hq, .tail _ (.head _)⟩)) e.symm
  refine ⟨p, G, all, rfl, r.st.s.trans same2, by rw [eall]; exact ac2, ndall, fun x hx' => ⟨hg _ (sub _ (List.mem_map_of_mem (f := (·.1)) hx')), ?_, ?_, ?_⟩, by show ((qs.map fun q => q.2.2) ++ ps).length ≤ 100; rw [List.length_append, List.length_map]; omega, fun H3 md => ⟨true, rfl, iteF ?_⟩⟩
  · rcases List.mem_append.mp hx' with z | z
    · obtain ⟨q, hq, rfl⟩ := List.mem_map.mp z
      exact same2 _ _ (e4 q hq).2.1
    · exact same2 _ _ (i4 x z).1
  · rcases List.mem_append.mp hx' with z | z
    · obtain ⟨q, hq, rfl⟩ := List.mem_map.mp z
      exact (e4 q hq).2.2
    · exact (i4 x z).2
  · rcases List.mem_append.mp hx' with z | z
    · obtain ⟨q, hq, rfl⟩ := List.mem_map.mp z
      have hm := List.mem_map_of_mem (f := fun q : Addr × V × Rw => q.2.2.2.1.length) hq
      rw [e3] at hm
      obtain ⟨m, hm1, hm2⟩ := List.mem_map.mp hm
      have := hd m hm1
      show q.2.2.2.1.length ≤ 100
      omega
    · have h1 := (i4 x z).2.length
      have hm := List.mem_map_of_mem (f := fun p : Rw => p.2.2) z
      rw [i3] at hm
      obtain ⟨r0, hr0, er⟩ := List.mem_map.mp hm
      have := hl r0 hr0
      rw [← h1, ← er, List.length_map]; exact this
  · have lxn : lx ∉ all.map (·.1) := fun z => by
      rw [emap] at z
      rcases List.mem_append.mp z with z | z
      · obtain ⟨q, hq, e⟩ := List.mem_map.mp z
        have e : q.2.2.1 = lx := e
        exact ndx.1 (List.mem_flatMap.mpr ⟨q, hq, by rw [← e]; exact .tail _ (.head _)⟩)
      · exact nd1.2.2 lx (.tail _ (List.mem_append_right _ (List.mem_append_left _ (.tail _ z)))) lx (.head _) rfl
    have hx3 : H3 lx = some (.lst (qs.map fun q => V.ref q.1)) := md lx _ lxn (same2 _ _ hx)
    refine ⟨_, p1, .inl ⟨rfl, _, SqL.of hx3⟩, lx, _, rfl, rfl, hx3, ?_⟩
    refine k _ G _ (q _ (((Md.same same2).trans (md.sub sub)).trans (.upd (List.mem_append_right _ (.head _)))))
theorem er_mxs (D : Int) (M : List (Int × List Int)) : er (.ow ((M.map fun m => (fW D m.1, m.2)).map tMx)) = dMix D M := by
  rw [er_ow_map, List.map_map]
  unfold dMix
  congr 1
  refine List.map_congr_left fun m _ => ?_
  show Dv.tup [dF (fW D m.1), er (tInts m.2)] = _
  rw [er_tInts]
def hdS (W : Int) (c : List Int) (rows : List (List Int)) : Dv := .lst [dis c, dSh W rows]
theorem hdS_dp (W : Int) (c : List Int) (rows : List (List Int)) : dpD (hdS W c rows) ≤ 50 := Nat.le_trans (dpD_lst (n := 3) fun d hd => by
  simp only [List.mem_cons, List.not_mem_nil, or_false] at hd
  rcases hd with rfl | rfl
  · exact Nat.le_trans (dpD_dis c) (by decide)
  · exact dpD_sh W rows) (by decide)
theorem hdS_eq (W : Int) (c : List Int) (rows : List (List Int)) : eqD (hdS W c rows) (hdS W c rows) = true := eqD_refl (by
  show (okD (dis c) && (okD (dSh W rows) && true)) = true
  rw [okD_dis, okD_sh]; rfl)
theorem er_hnd (W : Int) (c : List Int) (rows : List (List Int)) : er (tHnd W c rows) = hdS W c rows := by
  show Dv.lst [er (tInts c), er (.ow _)] = _
  rw [er_tInts, er_ow_map, List.map_map]
  unfold hdS
  congr 4
  refine List.map_congr_left fun r _ => ?_
  show er (.ow _) = _
  rw [er_fzs]
theorem lf_mx (l : List ((Int × Int) × List Int)) : lfT (.ow (l.map tMx)) = true := lfTs_of fun t ht => by
  obtain ⟨m, _, rfl⟩ := List.mem_map.mp ht
  show (true && (lfTs (m.2.map fun n => Tr.fz (di n)) && true)) = true
  rw [lfTs_of fun t ht => by obtain ⟨x, _, rfl⟩ := List.mem_map.mp ht; rfl]; rfl
abbrev s_law : Stmt := top 42
theorem sc_law : FnScope ["_law_script", "_law_first", "_law_counts_here", "_law_shares_here", "_law_handed", "_law_mix"] ["_law_script"] (defScope s_law) := ⟨rfl, rfl, rfl, by decide +kernel, rfl, by decide +kernel, by decide +kernel⟩
theorem ok_law {f f1 f2 f3 f4 f5 f6 : Addr} {fd fd1 fd2 fd3 fd4 fd5 fd6 : FuncData} {k : Nat} (F : Fun K "law" "law" s_law f fd) (T : Txt mg) (K__law_cell_at : Kn P w K mg base CX0 (k + 1) "_law_cell_at" f1 fd1 ["_law_script", "_law_k"] (spT K rCell)) (K__law_counts : Kn P w K mg base CX0 (k + 2) "_law_counts" f2 fd2 ["_law_script", "_law_many"] (spT K rCounts)) (K__law_shares : Kn P w K mg base CX0 (k + 2) "_law_shares" f3 fd3 ["_law_script", "_law_counts_here", "_law_askers"] (spT K rShares)) (K__law_is_mix : Kn P w K mg base CX0 (k + 3) "_law_is_mix" f4 fd4 ["_law_mix", "_law_counts_here", "_law_shares_here"] (spT K rIsMix)) (K__law_alone : Kn P w K mg base CX0 (k + 1) "_law_alone" f5 fd5 ["_law_lists"] (spAlone K)) (K_mix_of : Kn P w K mg base CX0 (k + 12) "mix_of" f6 fd6 ["counts", "shares"] (spT K rMix)) : FnOk P w K mg base CX0 (k + 13) f fd ["_law_script"] (spT K rLaw) := by
  refine fn_ok F.d sc_law (fun dd t h => by obtain ⟨_, _, rfl, _⟩ := h; rfl) fun dd t h => ?_
  obtain ⟨ns, hns, rfl, rfl⟩ := h
  refine ⟨_, .inl rfl, ?_⟩
  have big : 1000 < sizeLine := by decide
  have r1 : k + 1 ≤ k + 12 := by omega
  have r2 : k + 2 ≤ k + 12 := by omega
  have r3 : k + 3 ≤ k + 12 := by omega
  refine rns_cons (rn_set 1 (Ev.s (ev_call K__law_cell_at r1 (eva_cons (ev_nm 0 rfl) (eva_cons ev_int eva_nil)) ⟨ns, 0, by decide, rfl, rfl⟩)) (fun _ => sc_law.nd)) ?_
  have h0 := Int.emod_nonneg (cellF ns 0) (show (7 : Int) ≠ 0 by decide)
  have h1 := Int.emod_lt_of_pos (cellF ns 0) (show (0 : Int) < 7 by decide)
  have h2 := Int.emod_nonneg (cellF ns 0 / 7) (show (6 : Int) ≠ 0 by decide)
  have h3 := Int.emod_lt_of_pos (cellF ns 0 / 7) (show (0 : Int) < 6 by decide)
  obtain ⟨n, en, hn⟩ : ∃ n : Nat, cellF ns 0 % 7 = n ∧ n ≤ 6 := ⟨(cellF ns 0 % 7).toNat, by omega, by omega⟩
  obtain ⟨A, eA, hA, hA1⟩ : ∃ A : Nat, 1 + cellF ns 0 / 7 % 6 = A ∧ A ≤ 6 ∧ 1 ≤ A := ⟨(1 + cellF ns 0 / 7 % 6).toNat, by omega, by omega, by omega⟩
  refine rns_cons (rn_set 2 (Ev.s (Ev.as (d := dis (cntS ns n)) (ev_call K__law_counts r2 (eva_cons (ev_nm 0 rfl) (eva_cons (ev_mod (ev_nm 1 rfl) ev_int (by decide)) eva_nil)) ⟨ns, n, hn, by rw [← en]; rfl, rfl⟩) (er_tInts _))) (fun _ => sc_law.nd)) ?_
  have cl := cntS_len ns n
  have c9 := cntS_ok ns n
  generalize cntS ns n = c at cl c9
  have n6 : c.length ≤ 6 := by omega
  obtain ⟨mk, w0, w1⟩ := M35_ok (ns := ns) n6 c9 hA1 hA
  have mi := mk.mi n6 c9 hA1 hA w0 w1
  refine rns_cons (rn_set 3 (Ev.s (ev_call K__law_shares r2 (eva_cons (ev_nm 0 rfl) (eva_cons (ev_nm 2 rfl) (eva_cons (Ev.to (t' := ti (A : Nat)) (ev_add ev_int (ev_mod (ev_div (ev_nm 1 rfl) ev_int ⟨by decide, small_lt (by decide) (by decide)⟩) ev_int (by decide))) (by rw [eA])) eva_nil))) ⟨ns, c, A, n6, c9, hA1, hA, rfl, rfl⟩)) (fun _ => sc_law.nd)) ?_
  generalize totF (M35 ns c A) = W at mi
  generalize rows35 A c.length (M35 ns c A) = rows at mi
  obtain ⟨D, M, mx⟩ := mi.sem
  generalize cellF ns 0 = first
  have A6 := mi.A6
  have lf := are_lf mi.sh mi.n6 mi.c9 mi.ne mi.A6 mi.ar
  have rlen : ∀ r ∈ rows, r.length = c.length + 1 := fun r hr => by
    have := (lf.row (r.map (prt W (botF W rows))) (List.mem_map.mpr ⟨r, hr, rfl⟩)).1
    rw [List.length_map] at this
    exact this
  refine rns_cons (rn_set 4 (EvS.to (t' := tHnd W c rows) (Ev.s (ev_lst (eva_cons (ev_list T.b_list (ev_nm 2 rfl) (.inl rfl)) (eva_cons (ev_lcm (own := ["_law_row"]) (fr := []) rows (dFs W) (fun r => .ow ((r.map fun s => dF (fW W s)).map .fz)) (fun i => lcs ⟨rfl, rfl, by decide +kernel, by decide +kernel, by decide +kernel, by decide +kernel⟩) (evi_list (ev_nm 3 rfl) rfl) (evg_nm 0 (fun _ => by show List.Nodup (["_law_row"] : List Str); decide)) (by decide) (by omega) (fun r hr => ⟨_, rfl, by exact ev_list T.b_list (ev_nm 0 rfl) (.inl rfl)⟩) (fun dd => by cases dd <;> rfl)) eva_nil)) (by show 2 ≤ sizeLine; decide))) ?_) (fun _ => sc_law.nd)) ?_
  · show Tr.ow [Tr.ow _, Tr.ow _] = Tr.ow [Tr.ow _, Tr.ow _]
    rw [ints_tr, List.map_map]; rfl
  show Rns _ _ [some (.fz (dis ns)), some (ti first), some (.fz (dis c)), some (.fz (dSh W rows)), some (tHnd W c rows), none] _
  have gds : gdS [some (.fz (dis ns)), some (ti first), some (.fz (dis c)), some (.fz (dSh W rows)), some (tHnd W c rows), none] = true := by
    show (true && (true && (true && (true && ((gdTs (c.map fun n => Tr.fz (di n)) && (gdTs ((rows.map fun r => r.map fun s => dF (fW W s)).map fun ds => Tr.ow (ds.map .fz)) && true)) && (true && true)))))) = true
    rw [gdTs_of fun t ht => by obtain ⟨x, _, rfl⟩ := List.mem_map.mp ht; rfl, gdTs_of fun t ht => by
      obtain ⟨x, _, rfl⟩ := List.mem_map.mp ht
      exact gdTs_of fun t ht => by obtain ⟨x, _, rfl⟩ := List.mem_map.mp ht; rfl]; rfl
  refine rns_cons (rn_set 5 (EvS.to (t' := .ow ((M.map fun m => (fW D m.1, m.2)).map tMx)) (Ev.pkL (t := .ow ((mixT W c rows).map tMx)) (ev_call K_mix_of (Nat.le_refl _) (eva_cons (ev_ix (d := dis c) (ev_nm 4 rfl) ev_int (er_hnd W c rows) rfl) (eva_cons (ev_ix (d := dSh W rows) (ev_nm 4 rfl) ev_int (er_hnd W c rows) rfl) eva_nil)) ⟨W, c, rows, mi, rfl, rfl⟩) (lf_mx _) gds) (by rw [mx.eq])) (fun _ => sc_law.nd)) ?_
  show Rns _ _ [some (.fz (dis ns)), some (ti first), some (.fz (dis c)), some (.fz (dSh W rows)), some (tHnd W c rows), some (.ow ((M.map fun m => (fW D m.1, m.2)).map tMx))] _
  refine rns_cons (rn_skip (Et.pk (Ew.et (ew_or (et_not (et_val (ev_call (t := tb true) K__law_is_mix r3 (eva_cons (ev_nm 5 rfl) (eva_cons (ev_nm 2 rfl) (eva_cons (ev_nm 3 rfl) eva_nil))) ⟨W, c, rows, D, M, mi, mx, ?_, rfl⟩))) fun _ => (ew_or1 (et_neS (ev_nm 4 rfl) (ev_lst (eva_cons (ev_nm 2 rfl) (eva_cons (ev_nm 3 rfl) eva_nil)) (by show 2 ≤ sizeLine; decide)) (.inl ⟨_, _, er_hnd W c rows, rfl⟩) (by show dpD (er (tHnd W c rows)) ≤ 50; rw [er_hnd]; exact hdS_dp W c rows)))))) ?_) ?_
  · show (!true || !eqD (er (tHnd W c rows)) (hdS W c rows)) = false
    rw [er_hnd, hdS_eq]; rfl
  rotate_left
  · show [er (.ow _), _, _] = _
    rw [er_mxs]; rfl
  refine rns_two (ρ' := [some (.fz (dis ns)), some (ti first), some (.fz (dis c)), some (.fz (dSh W rows)), none, none])
    (fun i => ps_if (pt_not (pt_val (pe_kn K__law_alone (i.hr.mono (by omega)) (by rfl) (pa_cons (pe_op op_cat (pe_lc (tt := fun _ H Q => Q true H) (own := ["_law_weight", "_law_deal_here"]) (fr := []) (lcs ⟨rfl, rfl, by decide +kernel, by decide +kernel, by decide +kernel, by decide +kernel⟩) rfl (pi_list (pv 5)) (fun C s H ex pn => pg_tup rfl (pgs_cons (pg_name (by show List.Nodup (["_law_weight", "_law_deal_here"] : List Str); decide) rfl (Or.inl rfl) (by first | exact .inl rfl | exact .inr rfl)) (pgs_cons (pg_name (by show List.Nodup (["_law_weight", "_law_deal_here"] : List Str); decide) rfl (Or.inl rfl) (by first | exact .inl rfl | exact .inr rfl)) pgs_nil))) (fun C s H ex pn pins s1 σ1 H1 Q I h => lc_t0 pins s1 σ1 H1 Q I h) (fun C s H ex pn => pv 1)) (pe_ix ix_list (pv 4) pe_int (fun _ _ => rfl))) pa_nil)))) (pss_one (ps_ret pe_bl)) pss_nil)
    (fun i => ps_expr (pe_bm0 PySem.F.plainAttrs_list PySem.F.slot_list_clear PySem.F.type_list_clear mt_clear (pv 5)))
    (fun D' σ G0 H0 G H r kk => sem_alone (K := K) (W := W) (c := c) (rows := rows) (M := M.map fun m => (fW D m.1, m.2)) rfl rfl (by rw [List.length_map]; exact mx.m48) (fun m hm => by
      obtain ⟨m', hm', rfl⟩ := List.mem_map.mp hm
      show m'.2.length ≤ 100
      rw [mx.len m' hm']; omega) A6 (fun r hr => by rw [rlen r hr]; omega) r kk) ?_
  refine rns_one (rn_ret (Ev.s (ev_call (t := tb true) K__law_is_mix r3 (eva_cons (ev_call K_mix_of (Nat.le_refl _) (eva_cons (ev_nm 2 rfl) (eva_cons (ev_nm 3 rfl) eva_nil)) ⟨W, c, rows, mi, rfl, rfl⟩) (eva_cons (ev_nm 2 rfl) (eva_cons (ev_nm 3 rfl) eva_nil))) ⟨W, c, rows, D, M, mi, mx, ?_, rfl⟩)))
  show [er (.ow _), _, _] = _
  rw [mx.eq, er_mxs]; rfl
end
end K35
namespace K35
open PySem L2
theorem us1 {α : Type} {us : List α} (h : us.length = 1) : ∃ a0, us = [a0] := by
  rcases us with _ | ⟨a0, us⟩; · cases h
  rcases us with _ | ⟨b, us⟩
  · exact ⟨a0, rfl⟩
  · simp at h
theorem us2 {α : Type} {us : List α} (h : us.length = 2) : ∃ a0 a1, us = [a0, a1] := by
  rcases us with _ | ⟨a0, us⟩; · cases h
  rcases us with _ | ⟨a1, us⟩; · cases h
  rcases us with _ | ⟨b, us⟩
  · exact ⟨a0, a1, rfl⟩
  · simp at h
theorem us3 {α : Type} {us : List α} (h : us.length = 3) : ∃ a0 a1 a2, us = [a0, a1, a2] := by
  rcases us with _ | ⟨a0, us⟩; · cases h
  rcases us with _ | ⟨a1, us⟩; · cases h
  rcases us with _ | ⟨a2, us⟩; · cases h
  rcases us with _ | ⟨b, us⟩
  · exact ⟨a0, a1, a2, rfl⟩
  · simp at h
theorem us5 {α : Type} {us : List α} (h : us.length = 5) : ∃ a0 a1 a2 a3 a4, us = [a0, a1, a2, a3, a4] := by
  rcases us with _ | ⟨a0, us⟩; · cases h
  rcases us with _ | ⟨a1, us⟩; · cases h
  rcases us with _ | ⟨a2, us⟩; · cases h
  rcases us with _ | ⟨a3, us⟩; · cases h
  rcases us with _ | ⟨a4, us⟩; · cases h
  rcases us with _ | ⟨b, us⟩
  · exact ⟨a0, a1, a2, a3, a4, rfl⟩
  · simp at h
theorem all_mk {l : PySem.W.OpenLaw} {w : World} {K : PySem.W.Frag} {h : Heap} {mg : Str → Option Value} {fa : Addr} (X : K.In h) (G : h.Ns mainGlobals mg) (hfa : mg "law" = some (.ref fa))
    {f1 : Addr} {od1 an1 : Option Addr} {sl1 : Array (Option Value)} {oc1 kV1 dc1 pm1 cd1 ct1 : Value}
    {f2 : Addr} {od2 an2 : Option Addr} {sl2 : Array (Option Value)} {oc2 kV2 dc2 pm2 cd2 ct2 : Value}
    {f3 : Addr} {od3 an3 : Option Addr} {sl3 : Array (Option Value)} {oc3 kV3 dc3 pm3 cd3 ct3 : Value}
    {f4 : Addr} {od4 an4 : Option Addr} {sl4 : Array (Option Value)} {oc4 kV4 dc4 pm4 cd4 ct4 : Value}
    {f5 : Addr} {od5 an5 : Option Addr} {sl5 : Array (Option Value)} {oc5 kV5 dc5 pm5 cd5 ct5 : Value}
    {f6 : Addr} {od6 an6 : Option Addr} {sl6 : Array (Option Value)} {oc6 kV6 dc6 pm6 cd6 ct6 : Value}
    {f7 : Addr} {od7 an7 : Option Addr} {sl7 : Array (Option Value)} {oc7 kV7 dc7 pm7 cd7 ct7 : Value}
    {dt7 : Addr} {do7 : Value} {dd7 : Option Addr} {dn7 : Nat} {ds7 : Array (Option Value)} {tk7 : Tok}
    {f8 : Addr} {od8 an8 : Option Addr} {sl8 : Array (Option Value)} {oc8 kV8 dc8 pm8 cd8 ct8 : Value}
    {f9 : Addr} {od9 an9 : Option Addr} {sl9 : Array (Option Value)} {oc9 kV9 dc9 pm9 cd9 ct9 : Value}
    {f10 : Addr} {od10 an10 : Option Addr} {sl10 : Array (Option Value)} {oc10 kV10 dc10 pm10 cd10 ct10 : Value}
    {f11 : Addr} {od11 an11 : Option Addr} {sl11 : Array (Option Value)} {oc11 kV11 dc11 pm11 cd11 ct11 : Value}
    {f12 : Addr} {od12 an12 : Option Addr} {sl12 : Array (Option Value)} {oc12 kV12 dc12 pm12 cd12 ct12 : Value}
    {f13 : Addr} {od13 an13 : Option Addr} {sl13 : Array (Option Value)} {oc13 kV13 dc13 pm13 cd13 ct13 : Value}
    {f14 : Addr} {od14 an14 : Option Addr} {sl14 : Array (Option Value)} {oc14 kV14 dc14 pm14 cd14 ct14 : Value}
    {f15 : Addr} {od15 an15 : Option Addr} {sl15 : Array (Option Value)} {oc15 kV15 dc15 pm15 cd15 ct15 : Value}
    {f16 : Addr} {od16 an16 : Option Addr} {sl16 : Array (Option Value)} {oc16 kV16 dc16 pm16 cd16 ct16 : Value}
    {f17 : Addr} {od17 an17 : Option Addr} {sl17 : Array (Option Value)} {oc17 kV17 dc17 pm17 cd17 ct17 : Value}
    {f18 : Addr} {od18 an18 : Option Addr} {sl18 : Array (Option Value)} {oc18 kV18 dc18 pm18 cd18 ct18 : Value}
    {f19 : Addr} {od19 an19 : Option Addr} {sl19 : Array (Option Value)} {oc19 kV19 dc19 pm19 cd19 ct19 : Value}
    {f20 : Addr} {od20 an20 : Option Addr} {sl20 : Array (Option Value)} {oc20 kV20 dc20 pm20 cd20 ct20 : Value}
    {f21 : Addr} {od21 an21 : Option Addr} {sl21 : Array (Option Value)} {oc21 kV21 dc21 pm21 cd21 ct21 : Value}
    {f22 : Addr} {od22 an22 : Option Addr} {sl22 : Array (Option Value)} {oc22 kV22 dc22 pm22 cd22 ct22 : Value}
    {f23 : Addr} {od23 an23 : Option Addr} {sl23 : Array (Option Value)} {oc23 kV23 dc23 pm23 cd23 ct23 : Value}
    {f24 : Addr} {od24 an24 : Option Addr} {sl24 : Array (Option Value)} {oc24 kV24 dc24 pm24 cd24 ct24 : Value}
    {f25 : Addr} {od25 an25 : Option Addr} {sl25 : Array (Option Value)} {oc25 kV25 dc25 pm25 cd25 ct25 : Value}
    {f26 : Addr} {od26 an26 : Option Addr} {sl26 : Array (Option Value)} {oc26 kV26 dc26 pm26 cd26 ct26 : Value}
    {f27 : Addr} {od27 an27 : Option Addr} {sl27 : Array (Option Value)} {oc27 kV27 dc27 pm27 cd27 ct27 : Value}
    {f28 : Addr} {od28 an28 : Option Addr} {sl28 : Array (Option Value)} {oc28 kV28 dc28 pm28 cd28 ct28 : Value}
    {f29 : Addr} {od29 an29 : Option Addr} {sl29 : Array (Option Value)} {oc29 kV29 dc29 pm29 cd29 ct29 : Value}
    {f30 : Addr} {od30 an30 : Option Addr} {sl30 : Array (Option Value)} {oc30 kV30 dc30 pm30 cd30 ct30 : Value}
    {f31 : Addr} {od31 an31 : Option Addr} {sl31 : Array (Option Value)} {oc31 kV31 dc31 pm31 cd31 ct31 : Value}
    {f32 : Addr} {od32 an32 : Option Addr} {sl32 : Array (Option Value)} {oc32 kV32 dc32 pm32 cd32 ct32 : Value}
    {f33 : Addr} {od33 an33 : Option Addr} {sl33 : Array (Option Value)} {oc33 kV33 dc33 pm33 cd33 ct33 : Value}
    {gt1 : Tok}
    (a1 : PySem.W.nsIn K mainGlobals "give_thing" = some (some (.ref f1)))
    (l1 : K.lookup f1 = some ⟨oc1, od1, .func (PySem.W.fnOf "give_thing" "give_thing" (defArgs s_give_thing) (defBody s_give_thing) (defScope s_give_thing) .none kV1 dc1 pm1 an1 cd1 ct1), sl1⟩)
    (c1 : PySem.W.codeIn K cd1 "give_thing" = true)
    (k1 : PySem.W.keepIn K (.ref f1) = true)
    (a2 : PySem.W.nsIn K mainGlobals "deal_out" = some (some (.ref f2)))
    (l2 : K.lookup f2 = some ⟨oc2, od2, .func (PySem.W.fnOf "deal_out" "deal_out" (defArgs s_deal_out) (defBody s_deal_out) (defScope s_deal_out) .none kV2 dc2 pm2 an2 cd2 ct2), sl2⟩)
    (c2 : PySem.W.codeIn K cd2 "deal_out" = true)
    (k2 : PySem.W.keepIn K (.ref f2) = true)
    (a3 : PySem.W.nsIn K mainGlobals "looked_for" = some (some (.ref f3)))
    (l3 : K.lookup f3 = some ⟨oc3, od3, .func (PySem.W.fnOf "looked_for" "looked_for" (defArgs s_looked_for) (defBody s_looked_for) (defScope s_looked_for) .none kV3 dc3 pm3 an3 cd3 ct3), sl3⟩)
    (c3 : PySem.W.codeIn K cd3 "looked_for" = true)
    (k3 : PySem.W.keepIn K (.ref f3) = true)
    (a4 : PySem.W.nsIn K mainGlobals "deal_of" = some (some (.ref f4)))
    (l4 : K.lookup f4 = some ⟨oc4, od4, .func (PySem.W.fnOf "deal_of" "deal_of" (defArgs s_deal_of) (defBody s_deal_of) (defScope s_deal_of) .none kV4 dc4 pm4 an4 cd4 ct4), sl4⟩)
    (c4 : PySem.W.codeIn K cd4 "deal_of" = true)
    (k4 : PySem.W.keepIn K (.ref f4) = true)
    (a5 : PySem.W.nsIn K mainGlobals "is_whole" = some (some (.ref f5)))
    (l5 : K.lookup f5 = some ⟨oc5, od5, .func (PySem.W.fnOf "is_whole" "is_whole" (defArgs s_is_whole) (defBody s_is_whole) (defScope s_is_whole) .none kV5 dc5 pm5 an5 cd5 ct5), sl5⟩)
    (c5 : PySem.W.codeIn K cd5 "is_whole" = true)
    (k5 : PySem.W.keepIn K (.ref f5) = true)
    (a6 : PySem.W.nsIn K mainGlobals "common_part" = some (some (.ref f6)))
    (l6 : K.lookup f6 = some ⟨oc6, od6, .func (PySem.W.fnOf "common_part" "common_part" (defArgs s_common_part) (defBody s_common_part) (defScope s_common_part) .none kV6 dc6 pm6 an6 cd6 ct6), sl6⟩)
    (c6 : PySem.W.codeIn K cd6 "common_part" = true)
    (k6 : PySem.W.keepIn K (.ref f6) = true)
    (a7 : PySem.W.nsIn K mainGlobals "fraction" = some (some (.ref f7)))
    (l7 : K.lookup f7 = some ⟨oc7, od7, .func (PySem.W.fnOf "fraction" "fraction" (defArgs s_fraction) (defBody s_fraction) (defScope s_fraction) (.ref dt7) kV7 dc7 pm7 an7 cd7 ct7), sl7⟩)
    (d7 : K.lookup dt7 = some ⟨do7, dd7, .seq #[.int 1 tk7] dn7, ds7⟩)
    (c7 : PySem.W.codeIn K cd7 "fraction" = true)
    (k7 : PySem.W.keepIn K (.ref f7) = true)
    (a8 : PySem.W.nsIn K mainGlobals "plus" = some (some (.ref f8)))
    (l8 : K.lookup f8 = some ⟨oc8, od8, .func (PySem.W.fnOf "plus" "plus" (defArgs s_plus) (defBody s_plus) (defScope s_plus) .none kV8 dc8 pm8 an8 cd8 ct8), sl8⟩)
    (c8 : PySem.W.codeIn K cd8 "plus" = true)
    (k8 : PySem.W.keepIn K (.ref f8) = true)
    (a9 : PySem.W.nsIn K mainGlobals "under" = some (some (.ref f9)))
    (l9 : K.lookup f9 = some ⟨oc9, od9, .func (PySem.W.fnOf "under" "under" (defArgs s_under) (defBody s_under) (defScope s_under) .none kV9 dc9 pm9 an9 cd9 ct9), sl9⟩)
    (c9 : PySem.W.codeIn K cd9 "under" = true)
    (k9 : PySem.W.keepIn K (.ref f9) = true)
    (a10 : PySem.W.nsIn K mainGlobals "sum_of" = some (some (.ref f10)))
    (l10 : K.lookup f10 = some ⟨oc10, od10, .func (PySem.W.fnOf "sum_of" "sum_of" (defArgs s_sum_of) (defBody s_sum_of) (defScope s_sum_of) .none kV10 dc10 pm10 an10 cd10 ct10), sl10⟩)
    (c10 : PySem.W.codeIn K cd10 "sum_of" = true)
    (k10 : PySem.W.keepIn K (.ref f10) = true)
    (a11 : PySem.W.nsIn K mainGlobals "common_bottom" = some (some (.ref f11)))
    (l11 : K.lookup f11 = some ⟨oc11, od11, .func (PySem.W.fnOf "common_bottom" "common_bottom" (defArgs s_common_bottom) (defBody s_common_bottom) (defScope s_common_bottom) .none kV11 dc11 pm11 an11 cd11 ct11), sl11⟩)
    (c11 : PySem.W.codeIn K cd11 "common_bottom" = true)
    (k11 : PySem.W.keepIn K (.ref f11) = true)
    (a12 : PySem.W.nsIn K mainGlobals "least_of" = some (some (.ref f12)))
    (l12 : K.lookup f12 = some ⟨oc12, od12, .func (PySem.W.fnOf "least_of" "least_of" (defArgs s_least_of) (defBody s_least_of) (defScope s_least_of) .none kV12 dc12 pm12 an12 cd12 ct12), sl12⟩)
    (c12 : PySem.W.codeIn K cd12 "least_of" = true)
    (k12 : PySem.W.keepIn K (.ref f12) = true)
    (a13 : PySem.W.nsIn K mainGlobals "bottom_of_all" = some (some (.ref f13)))
    (l13 : K.lookup f13 = some ⟨oc13, od13, .func (PySem.W.fnOf "bottom_of_all" "bottom_of_all" (defArgs s_bottom_of_all) (defBody s_bottom_of_all) (defScope s_bottom_of_all) .none kV13 dc13 pm13 an13 cd13 ct13), sl13⟩)
    (c13 : PySem.W.codeIn K cd13 "bottom_of_all" = true)
    (k13 : PySem.W.keepIn K (.ref f13) = true)
    (a14 : PySem.W.nsIn K mainGlobals "parts_of" = some (some (.ref f14)))
    (l14 : K.lookup f14 = some ⟨oc14, od14, .func (PySem.W.fnOf "parts_of" "parts_of" (defArgs s_parts_of) (defBody s_parts_of) (defScope s_parts_of) .none kV14 dc14 pm14 an14 cd14 ct14), sl14⟩)
    (c14 : PySem.W.codeIn K cd14 "parts_of" = true)
    (k14 : PySem.W.keepIn K (.ref f14) = true)
    (a15 : PySem.W.nsIn K mainGlobals "dealt_of" = some (some (.ref f15)))
    (l15 : K.lookup f15 = some ⟨oc15, od15, .func (PySem.W.fnOf "dealt_of" "dealt_of" (defArgs s_dealt_of) (defBody s_dealt_of) (defScope s_dealt_of) .none kV15 dc15 pm15 an15 cd15 ct15), sl15⟩)
    (c15 : PySem.W.codeIn K cd15 "dealt_of" = true)
    (k15 : PySem.W.keepIn K (.ref f15) = true)
    (a16 : PySem.W.nsIn K mainGlobals "is_row" = some (some (.ref f16)))
    (l16 : K.lookup f16 = some ⟨oc16, od16, .func (PySem.W.fnOf "is_row" "is_row" (defArgs s_is_row) (defBody s_is_row) (defScope s_is_row) .none kV16 dc16 pm16 an16 cd16 ct16), sl16⟩)
    (c16 : PySem.W.codeIn K cd16 "is_row" = true)
    (k16 : PySem.W.keepIn K (.ref f16) = true)
    (a17 : PySem.W.nsIn K mainGlobals "are_shares" = some (some (.ref f17)))
    (l17 : K.lookup f17 = some ⟨oc17, od17, .func (PySem.W.fnOf "are_shares" "are_shares" (defArgs s_are_shares) (defBody s_are_shares) (defScope s_are_shares) .none kV17 dc17 pm17 an17 cd17 ct17), sl17⟩)
    (c17 : PySem.W.codeIn K cd17 "are_shares" = true)
    (k17 : PySem.W.keepIn K (.ref f17) = true)
    (a18 : PySem.W.nsIn K mainGlobals "spare_parts" = some (some (.ref f18)))
    (l18 : K.lookup f18 = some ⟨oc18, od18, .func (PySem.W.fnOf "spare_parts" "spare_parts" (defArgs s_spare_parts) (defBody s_spare_parts) (defScope s_spare_parts) .none kV18 dc18 pm18 an18 cd18 ct18), sl18⟩)
    (c18 : PySem.W.codeIn K cd18 "spare_parts" = true)
    (k18 : PySem.W.keepIn K (.ref f18) = true)
    (a19 : PySem.W.nsIn K mainGlobals "next_deal" = some (some (.ref f19)))
    (l19 : K.lookup f19 = some ⟨oc19, od19, .func (PySem.W.fnOf "next_deal" "next_deal" (defArgs s_next_deal) (defBody s_next_deal) (defScope s_next_deal) .none kV19 dc19 pm19 an19 cd19 ct19), sl19⟩)
    (c19 : PySem.W.codeIn K cd19 "next_deal" = true)
    (k19 : PySem.W.keepIn K (.ref f19) = true)
    (a20 : PySem.W.nsIn K mainGlobals "most_weight" = some (some (.ref f20)))
    (l20 : K.lookup f20 = some ⟨oc20, od20, .func (PySem.W.fnOf "most_weight" "most_weight" (defArgs s_most_weight) (defBody s_most_weight) (defScope s_most_weight) .none kV20 dc20 pm20 an20 cd20 ct20), sl20⟩)
    (c20 : PySem.W.codeIn K cd20 "most_weight" = true)
    (k20 : PySem.W.keepIn K (.ref f20) = true)
    (a21 : PySem.W.nsIn K mainGlobals "left_after" = some (some (.ref f21)))
    (l21 : K.lookup f21 = some ⟨oc21, od21, .func (PySem.W.fnOf "left_after" "left_after" (defArgs s_left_after) (defBody s_left_after) (defScope s_left_after) .none kV21 dc21 pm21 an21 cd21 ct21), sl21⟩)
    (c21 : PySem.W.codeIn K cd21 "left_after" = true)
    (k21 : PySem.W.keepIn K (.ref f21) = true)
    (a22 : PySem.W.nsIn K mainGlobals "mix_of" = some (some (.ref f22)))
    (l22 : K.lookup f22 = some ⟨oc22, od22, .func (PySem.W.fnOf "mix_of" "mix_of" (defArgs s_mix_of) (defBody s_mix_of) (defScope s_mix_of) .none kV22 dc22 pm22 an22 cd22 ct22), sl22⟩)
    (c22 : PySem.W.codeIn K cd22 "mix_of" = true)
    (k22 : PySem.W.keepIn K (.ref f22) = true)
    (a23 : PySem.W.nsIn K mainGlobals "_law_cell_at" = some (some (.ref f23)))
    (l23 : K.lookup f23 = some ⟨oc23, od23, .func (PySem.W.fnOf "_law_cell_at" "_law_cell_at" (defArgs s__law_cell_at) (defBody s__law_cell_at) (defScope s__law_cell_at) .none kV23 dc23 pm23 an23 cd23 ct23), sl23⟩)
    (c23 : PySem.W.codeIn K cd23 "_law_cell_at" = true)
    (k23 : PySem.W.keepIn K (.ref f23) = true)
    (a24 : PySem.W.nsIn K mainGlobals "_law_divisor" = some (some (.ref f24)))
    (l24 : K.lookup f24 = some ⟨oc24, od24, .func (PySem.W.fnOf "_law_divisor" "_law_divisor" (defArgs s__law_divisor) (defBody s__law_divisor) (defScope s__law_divisor) .none kV24 dc24 pm24 an24 cd24 ct24), sl24⟩)
    (c24 : PySem.W.codeIn K cd24 "_law_divisor" = true)
    (k24 : PySem.W.keepIn K (.ref f24) = true)
    (a25 : PySem.W.nsIn K mainGlobals "_law_counts" = some (some (.ref f25)))
    (l25 : K.lookup f25 = some ⟨oc25, od25, .func (PySem.W.fnOf "_law_counts" "_law_counts" (defArgs s__law_counts) (defBody s__law_counts) (defScope s__law_counts) .none kV25 dc25 pm25 an25 cd25 ct25), sl25⟩)
    (c25 : PySem.W.codeIn K cd25 "_law_counts" = true)
    (k25 : PySem.W.keepIn K (.ref f25) = true)
    (a26 : PySem.W.nsIn K mainGlobals "_law_deal" = some (some (.ref f26)))
    (l26 : K.lookup f26 = some ⟨oc26, od26, .func (PySem.W.fnOf "_law_deal" "_law_deal" (defArgs s__law_deal) (defBody s__law_deal) (defScope s__law_deal) .none kV26 dc26 pm26 an26 cd26 ct26), sl26⟩)
    (c26 : PySem.W.codeIn K cd26 "_law_deal" = true)
    (k26 : PySem.W.keepIn K (.ref f26) = true)
    (a27 : PySem.W.nsIn K mainGlobals "_law_shares" = some (some (.ref f27)))
    (l27 : K.lookup f27 = some ⟨oc27, od27, .func (PySem.W.fnOf "_law_shares" "_law_shares" (defArgs s__law_shares) (defBody s__law_shares) (defScope s__law_shares) .none kV27 dc27 pm27 an27 cd27 ct27), sl27⟩)
    (c27 : PySem.W.codeIn K cd27 "_law_shares" = true)
    (k27 : PySem.W.keepIn K (.ref f27) = true)
    (a28 : PySem.W.nsIn K mainGlobals "_law_plus" = some (some (.ref f28)))
    (l28 : K.lookup f28 = some ⟨oc28, od28, .func (PySem.W.fnOf "_law_plus" "_law_plus" (defArgs s__law_plus) (defBody s__law_plus) (defScope s__law_plus) .none kV28 dc28 pm28 an28 cd28 ct28), sl28⟩)
    (c28 : PySem.W.codeIn K cd28 "_law_plus" = true)
    (k28 : PySem.W.keepIn K (.ref f28) = true)
    (a29 : PySem.W.nsIn K mainGlobals "_law_whole" = some (some (.ref f29)))
    (l29 : K.lookup f29 = some ⟨oc29, od29, .func (PySem.W.fnOf "_law_whole" "_law_whole" (defArgs s__law_whole) (defBody s__law_whole) (defScope s__law_whole) .none kV29 dc29 pm29 an29 cd29 ct29), sl29⟩)
    (c29 : PySem.W.codeIn K cd29 "_law_whole" = true)
    (k29 : PySem.W.keepIn K (.ref f29) = true)
    (a30 : PySem.W.nsIn K mainGlobals "_law_is_part" = some (some (.ref f30)))
    (l30 : K.lookup f30 = some ⟨oc30, od30, .func (PySem.W.fnOf "_law_is_part" "_law_is_part" (defArgs s__law_is_part) (defBody s__law_is_part) (defScope s__law_is_part) .none kV30 dc30 pm30 an30 cd30 ct30), sl30⟩)
    (c30 : PySem.W.codeIn K cd30 "_law_is_part" = true)
    (k30 : PySem.W.keepIn K (.ref f30) = true)
    (a31 : PySem.W.nsIn K mainGlobals "_law_is_mix" = some (some (.ref f31)))
    (l31 : K.lookup f31 = some ⟨oc31, od31, .func (PySem.W.fnOf "_law_is_mix" "_law_is_mix" (defArgs s__law_is_mix) (defBody s__law_is_mix) (defScope s__law_is_mix) .none kV31 dc31 pm31 an31 cd31 ct31), sl31⟩)
    (c31 : PySem.W.codeIn K cd31 "_law_is_mix" = true)
    (k31 : PySem.W.keepIn K (.ref f31) = true)
    (a32 : PySem.W.nsIn K mainGlobals "_law_alone" = some (some (.ref f32)))
    (l32 : K.lookup f32 = some ⟨oc32, od32, .func (PySem.W.fnOf "_law_alone" "_law_alone" (defArgs s__law_alone) (defBody s__law_alone) (defScope s__law_alone) .none kV32 dc32 pm32 an32 cd32 ct32), sl32⟩)
    (c32 : PySem.W.codeIn K cd32 "_law_alone" = true)
    (k32 : PySem.W.keepIn K (.ref f32) = true)
    (a33 : PySem.W.nsIn K mainGlobals "law" = some (some (.ref f33)))
    (l33 : K.lookup f33 = some ⟨oc33, od33, .func (PySem.W.fnOf "law" "law" (defArgs s_law) (defBody s_law) (defScope s_law) .none kV33 dc33 pm33 an33 cd33 ct33), sl33⟩)
    (c33 : PySem.W.codeIn K cd33 "law" = true)
    (k33 : PySem.W.keepIn K (.ref f33) = true)
    (z_isinstance : PySem.W.nsIn K mainGlobals "isinstance" = some none)
    (z_int : PySem.W.nsIn K mainGlobals "int" = some none)
    (z_bool : PySem.W.nsIn K mainGlobals "bool" = some none)
    (z_list : PySem.W.nsIn K mainGlobals "list" = some none)
    (z_tuple : PySem.W.nsIn K mainGlobals "tuple" = some none)
    (z_len : PySem.W.nsIn K mainGlobals "len" = some none)
    (z_range : PySem.W.nsIn K mainGlobals "range" = some none)
    (z_zip : PySem.W.nsIn K mainGlobals "zip" = some none)
    (z_enumerate : PySem.W.nsIn K mainGlobals "enumerate" = some none)
    (z_sorted : PySem.W.nsIn K mainGlobals "sorted" = some none)
    (z_any : PySem.W.nsIn K mainGlobals "any" = some none)
    (z_all : PySem.W.nsIn K mainGlobals "all" = some none)
    (z_abs : PySem.W.nsIn K mainGlobals "abs" = some none)
    (z_sum : PySem.W.nsIn K mainGlobals "sum" = some none)
    (z_min : PySem.W.nsIn K mainGlobals "min" = some none)
    (z_max : PySem.W.nsIn K mainGlobals "max" = some none)
    (g_MOST : PySem.W.nsIn K mainGlobals "MOST" = some (some (.int 6 gt1)))
    : ∃ fd : FuncData, (∀ (s : Shared) (v : Value), BindsTo s fd ⟨[v], []⟩ [("_law_script", v)]) ∧ ∀ base : Heap, K.In base → base.Ns mainGlobals mg → FnOk l.prog w K mg base CX0 13 fa fd ["_law_script"] (spLaw K) := by
  have e := hfa.symm.trans (PySem.W.mg_of X G a33)
  cases e
  have T : Txt mg := ⟨PySem.W.mg_none_of X G z_isinstance, PySem.W.mg_none_of X G z_int, PySem.W.mg_none_of X G z_bool, PySem.W.mg_none_of X G z_list, PySem.W.mg_none_of X G z_tuple, PySem.W.mg_none_of X G z_len, PySem.W.mg_none_of X G z_range, PySem.W.mg_none_of X G z_zip, PySem.W.mg_none_of X G z_enumerate, PySem.W.mg_none_of X G z_sorted, PySem.W.mg_none_of X G z_any, PySem.W.mg_none_of X G z_all, PySem.W.mg_none_of X G z_abs, PySem.W.mg_none_of X G z_sum, PySem.W.mg_none_of X G z_min, PySem.W.mg_none_of X G z_max, ⟨_, PySem.W.mg_of X G g_MOST⟩⟩
  have F1 := fun_mk (st := s_give_thing) l1 c1 k1
  have b1 := F1.binds (ps := ["counts", "may", "deal", "asker", "seen"]) fun _ _ _ _ _ _ us hl => by
    obtain ⟨_, _, _, _, _, rfl⟩ := us5 hl
    rfl
  have F2 := fun_mk (st := s_deal_out) l2 c2 k2
  have b2 := F2.binds (ps := ["may", "must", "deal", "thing", "seen"]) fun _ _ _ _ _ _ us hl => by
    obtain ⟨_, _, _, _, _, rfl⟩ := us5 hl
    rfl
  have F3 := fun_mk (st := s_looked_for) l3 c3 k3
  have b3 := F3.binds (ps := ["counts", "may", "must"]) fun _ _ _ _ _ _ us hl => by
    obtain ⟨_, _, _, rfl⟩ := us3 hl
    rfl
  have F4 := fun_mk (st := s_deal_of) l4 c4 k4
  have b4 := F4.binds (ps := ["counts", "may", "must"]) fun _ _ _ _ _ _ us hl => by
    obtain ⟨_, _, _, rfl⟩ := us3 hl
    rfl
  have F5 := fun_mk (st := s_is_whole) l5 c5 k5
  have b5 := F5.binds (ps := ["number"]) fun _ _ _ _ _ _ us hl => by
    obtain ⟨_, rfl⟩ := us1 hl
    rfl
  have F6 := fun_mk (st := s_common_part) l6 c6 k6
  have b6 := F6.binds (ps := ["one", "other"]) fun _ _ _ _ _ _ us hl => by
    obtain ⟨_, _, rfl⟩ := us2 hl
    rfl
  have F7 := funD_mk (st := s_fraction) l7 c7 k7
  have b7 : Binds K _ ["top", "bottom"] [] := fun s us hK hl => match us, hl with | [u, v], _ => PySem.W.binds_K (fd := PySem.W.fnOf "fraction" "fraction" (defArgs s_fraction) (defBody s_fraction) (defScope s_fraction) (.ref dt7) kV7 dc7 pm7 an7 cd7 ct7) hK rfl d7 rfl rfl rfl
  have b7' : Binds K _ ["top", "bottom"] [.int 1 tk7] := fun s us hK hl => by
    cases us with
    | nil => exact absurd hl (by simp)
    | cons u r => cases r with
      | nil => exact PySem.W.binds_K (fd := PySem.W.fnOf "fraction" "fraction" (defArgs s_fraction) (defBody s_fraction) (defScope s_fraction) (.ref dt7) kV7 dc7 pm7 an7 cd7 ct7) hK rfl d7 rfl rfl rfl
      | cons v r => exact absurd hl (by simp only [List.length_append, List.length_cons, List.length_nil]; omega)
  have F8 := fun_mk (st := s_plus) l8 c8 k8
  have b8 := F8.binds (ps := ["one", "other"]) fun _ _ _ _ _ _ us hl => by
    obtain ⟨_, _, rfl⟩ := us2 hl
    rfl
  have F9 := fun_mk (st := s_under) l9 c9 k9
  have b9 := F9.binds (ps := ["one", "other"]) fun _ _ _ _ _ _ us hl => by
    obtain ⟨_, _, rfl⟩ := us2 hl
    rfl
  have F10 := fun_mk (st := s_sum_of) l10 c10 k10
  have b10 := F10.binds (ps := ["some"]) fun _ _ _ _ _ _ us hl => by
    obtain ⟨_, rfl⟩ := us1 hl
    rfl
  have F11 := fun_mk (st := s_common_bottom) l11 c11 k11
  have b11 := F11.binds (ps := ["some"]) fun _ _ _ _ _ _ us hl => by
    obtain ⟨_, rfl⟩ := us1 hl
    rfl
  have F12 := fun_mk (st := s_least_of) l12 c12 k12
  have b12 := F12.binds (ps := ["some"]) fun _ _ _ _ _ _ us hl => by
    obtain ⟨_, rfl⟩ := us1 hl
    rfl
  have F13 := fun_mk (st := s_bottom_of_all) l13 c13 k13
  have b13 := F13.binds (ps := ["rows"]) fun _ _ _ _ _ _ us hl => by
    obtain ⟨_, rfl⟩ := us1 hl
    rfl
  have F14 := fun_mk (st := s_parts_of) l14 c14 k14
  have b14 := F14.binds (ps := ["one", "bottom"]) fun _ _ _ _ _ _ us hl => by
    obtain ⟨_, _, rfl⟩ := us2 hl
    rfl
  have F15 := fun_mk (st := s_dealt_of) l15 c15 k15
  have b15 := F15.binds (ps := ["shares", "one"]) fun _ _ _ _ _ _ us hl => by
    obtain ⟨_, _, rfl⟩ := us2 hl
    rfl
  have F16 := fun_mk (st := s_is_row) l16 c16 k16
  have b16 := F16.binds (ps := ["row", "many"]) fun _ _ _ _ _ _ us hl => by
    obtain ⟨_, _, rfl⟩ := us2 hl
    rfl
  have F17 := fun_mk (st := s_are_shares) l17 c17 k17
  have b17 := F17.binds (ps := ["counts", "shares"]) fun _ _ _ _ _ _ us hl => by
    obtain ⟨_, _, rfl⟩ := us2 hl
    rfl
  have F18 := fun_mk (st := s_spare_parts) l18 c18 k18
  have b18 := F18.binds (ps := ["counts", "left"]) fun _ _ _ _ _ _ us hl => by
    obtain ⟨_, _, rfl⟩ := us2 hl
    rfl
  have F19 := fun_mk (st := s_next_deal) l19 c19 k19
  have b19 := F19.binds (ps := ["counts", "left"]) fun _ _ _ _ _ _ us hl => by
    obtain ⟨_, _, rfl⟩ := us2 hl
    rfl
  have F20 := fun_mk (st := s_most_weight) l20 c20 k20
  have b20 := F20.binds (ps := ["counts", "left", "deal"]) fun _ _ _ _ _ _ us hl => by
    obtain ⟨_, _, _, rfl⟩ := us3 hl
    rfl
  have F21 := fun_mk (st := s_left_after) l21 c21 k21
  have b21 := F21.binds (ps := ["left", "deal", "weight"]) fun _ _ _ _ _ _ us hl => by
    obtain ⟨_, _, _, rfl⟩ := us3 hl
    rfl
  have F22 := fun_mk (st := s_mix_of) l22 c22 k22
  have b22 := F22.binds (ps := ["counts", "shares"]) fun _ _ _ _ _ _ us hl => by
    obtain ⟨_, _, rfl⟩ := us2 hl
    rfl
  have F23 := fun_mk (st := s__law_cell_at) l23 c23 k23
  have b23 := F23.binds (ps := ["_law_script", "_law_k"]) fun _ _ _ _ _ _ us hl => by
    obtain ⟨_, _, rfl⟩ := us2 hl
    rfl
  have F24 := fun_mk (st := s__law_divisor) l24 c24 k24
  have b24 := F24.binds (ps := ["_law_one", "_law_other"]) fun _ _ _ _ _ _ us hl => by
    obtain ⟨_, _, rfl⟩ := us2 hl
    rfl
  have F25 := fun_mk (st := s__law_counts) l25 c25 k25
  have b25 := F25.binds (ps := ["_law_script", "_law_many"]) fun _ _ _ _ _ _ us hl => by
    obtain ⟨_, _, rfl⟩ := us2 hl
    rfl
  have F26 := fun_mk (st := s__law_deal) l26 c26 k26
  have b26 := F26.binds (ps := ["_law_cells", "_law_counts_here"]) fun _ _ _ _ _ _ us hl => by
    obtain ⟨_, _, rfl⟩ := us2 hl
    rfl
  have F27 := fun_mk (st := s__law_shares) l27 c27 k27
  have b27 := F27.binds (ps := ["_law_script", "_law_counts_here", "_law_askers"]) fun _ _ _ _ _ _ us hl => by
    obtain ⟨_, _, _, rfl⟩ := us3 hl
    rfl
  have F28 := fun_mk (st := s__law_plus) l28 c28 k28
  have b28 := F28.binds (ps := ["_law_one", "_law_other"]) fun _ _ _ _ _ _ us hl => by
    obtain ⟨_, _, rfl⟩ := us2 hl
    rfl
  have F29 := fun_mk (st := s__law_whole) l29 c29 k29
  have b29 := F29.binds (ps := ["_law_found"]) fun _ _ _ _ _ _ us hl => by
    obtain ⟨_, rfl⟩ := us1 hl
    rfl
  have F30 := fun_mk (st := s__law_is_part) l30 c30 k30
  have b30 := F30.binds (ps := ["_law_part", "_law_counts_here", "_law_askers"]) fun _ _ _ _ _ _ us hl => by
    obtain ⟨_, _, _, rfl⟩ := us3 hl
    rfl
  have F31 := fun_mk (st := s__law_is_mix) l31 c31 k31
  have b31 := F31.binds (ps := ["_law_mix", "_law_counts_here", "_law_shares_here"]) fun _ _ _ _ _ _ us hl => by
    obtain ⟨_, _, _, rfl⟩ := us3 hl
    rfl
  have F32 := fun_mk (st := s__law_alone) l32 c32 k32
  have b32 := F32.binds (ps := ["_law_lists"]) fun _ _ _ _ _ _ us hl => by
    obtain ⟨_, rfl⟩ := us1 hl
    rfl
  have F33 := fun_mk (st := s_law) l33 c33 k33
  refine ⟨PySem.W.fnOf "law" "law" (defArgs s_law) (defBody s_law) (defScope s_law) .none kV33 dc33 pm33 an33 cd33 ct33, fun s v => .of_eq rfl, fun base _ _ => ?_⟩
  have K1 := Kn.mk (base := base) (P := l.prog) (w := w) (ok_give_thing (k := 0) F1 T (fun sp j ok => Kn.mk (base := base) (P := l.prog) (w := w) ok (PySem.W.mg_of X G a1) k1 b1) ) (PySem.W.mg_of X G a1) k1 b1
  have K2 := Kn.mk (base := base) (P := l.prog) (w := w) (ok_deal_out (k := 0) F2 T (fun sp j ok => Kn.mk (base := base) (P := l.prog) (w := w) ok (PySem.W.mg_of X G a2) k2 b2) ) (PySem.W.mg_of X G a2) k2 b2
  have K3 := Kn.mk (base := base) (P := l.prog) (w := w) (ok_looked_for (k := 0) F3 T K1 K2) (PySem.W.mg_of X G a3) k3 b3
  have K4 := Kn.mk (base := base) (P := l.prog) (w := w) (ok_deal_of (k := 0) F4 T K3) (PySem.W.mg_of X G a4) k4 b4
  have K5 := Kn.mk (base := base) (P := l.prog) (w := w) (ok_is_whole (k := 0) F5 T ) (PySem.W.mg_of X G a5) k5 b5
  have K6 := Kn.mk (base := base) (P := l.prog) (w := w) (ok_common_part (k := 0) F6 T ) (PySem.W.mg_of X G a6) k6 b6
  have K7 := Kn.mk (base := base) (P := l.prog) (w := w) (ok_fraction (k := 0) F7 T K5 K6) (PySem.W.mg_of X G a7) k7 b7
  have K8 := Kn.mk (base := base) (P := l.prog) (w := w) (ok_plus (k := 0) F8 T K7) (PySem.W.mg_of X G a8) k8 b8
  have K9 := Kn.mk (base := base) (P := l.prog) (w := w) (ok_under (k := 0) F9 T ) (PySem.W.mg_of X G a9) k9 b9
  have K10 := Kn.mk (base := base) (P := l.prog) (w := w) (ok_sum_of (k := 0) F10 T K7 b7' K8) (PySem.W.mg_of X G a10) k10 b10
  have K11 := Kn.mk (base := base) (P := l.prog) (w := w) (ok_common_bottom (k := 0) F11 T K6) (PySem.W.mg_of X G a11) k11 b11
  have K12 := Kn.mk (base := base) (P := l.prog) (w := w) (ok_least_of (k := 0) F12 T K9) (PySem.W.mg_of X G a12) k12 b12
  have K13 := Kn.mk (base := base) (P := l.prog) (w := w) (ok_bottom_of_all (k := 0) F13 T K11) (PySem.W.mg_of X G a13) k13 b13
  have K14 := Kn.mk (base := base) (P := l.prog) (w := w) (ok_parts_of (k := 0) F14 T ) (PySem.W.mg_of X G a14) k14 b14
  have K15 := Kn.mk (base := base) (P := l.prog) (w := w) (ok_dealt_of (k := 0) F15 T K10) (PySem.W.mg_of X G a15) k15 b15
  have K16 := Kn.mk (base := base) (P := l.prog) (w := w) (ok_is_row (k := 0) F16 T K7 b7' K9 K10) (PySem.W.mg_of X G a16) k16 b16
  have K17 := Kn.mk (base := base) (P := l.prog) (w := w) (ok_are_shares (k := 0) F17 T K16 K9 K7 b7' K15) (PySem.W.mg_of X G a17) k17 b17
  have K18 := Kn.mk (base := base) (P := l.prog) (w := w) (ok_spare_parts (k := 0) F18 T ) (PySem.W.mg_of X G a18) k18 b18
  have K19 := Kn.mk (base := base) (P := l.prog) (w := w) (ok_next_deal (k := 0) F19 T K18 K4) (PySem.W.mg_of X G a19) k19 b19
  have K20 := Kn.mk (base := base) (P := l.prog) (w := w) (ok_most_weight (k := 0) F20 T K7 b7' K18 K12) (PySem.W.mg_of X G a20) k20 b20
  have K21 := Kn.mk (base := base) (P := l.prog) (w := w) (ok_left_after (k := 0) F21 T ) (PySem.W.mg_of X G a21) k21 b21
  have K22 := Kn.mk (base := base) (P := l.prog) (w := w) (ok_mix_of (k := 0) F22 T K17 K13 K14 K19 K20 K21 K7) (PySem.W.mg_of X G a22) k22 b22
  have K23 := Kn.mk (base := base) (P := l.prog) (w := w) (ok__law_cell_at (k := 0) F23 T ) (PySem.W.mg_of X G a23) k23 b23
  have K24 := Kn.mk (base := base) (P := l.prog) (w := w) (ok__law_divisor (k := 0) F24 T ) (PySem.W.mg_of X G a24) k24 b24
  have K25 := Kn.mk (base := base) (P := l.prog) (w := w) (ok__law_counts (k := 0) F25 T K23) (PySem.W.mg_of X G a25) k25 b25
  have K26 := Kn.mk (base := base) (P := l.prog) (w := w) (ok__law_deal (k := 0) F26 T ) (PySem.W.mg_of X G a26) k26 b26
  have K27 := Kn.mk (base := base) (P := l.prog) (w := w) (ok__law_shares (k := 0) F27 T K23 K26 K24) (PySem.W.mg_of X G a27) k27 b27
  have K28 := Kn.mk (base := base) (P := l.prog) (w := w) (ok__law_plus (k := 0) F28 T K24) (PySem.W.mg_of X G a28) k28 b28
  have K29 := Kn.mk (base := base) (P := l.prog) (w := w) (ok__law_whole (k := 0) F29 T ) (PySem.W.mg_of X G a29) k29 b29
  have K30 := Kn.mk (base := base) (P := l.prog) (w := w) (ok__law_is_part (k := 0) F30 T K24 K29) (PySem.W.mg_of X G a30) k30 b30
  have K31 := Kn.mk (base := base) (P := l.prog) (w := w) (ok__law_is_mix (k := 0) F31 T K30 K28) (PySem.W.mg_of X G a31) k31 b31
  have K32 := Kn.mk (base := base) (P := l.prog) (w := w) (ok__law_alone (k := 0) F32 T ) (PySem.W.mg_of X G a32) k32 b32
  exact law_ok (ok_law (k := 0) F33 T K23 K25 K27 K31 K32 K22)
theorem walk {l : PySem.W.OpenLaw} {q : Program} {loose : List Str} {XP : (Str → Option Value) → Heap → Prop} {YP : World → Heap → Prop} {d : DefRec} {K : Params → PySem.W.Frag} (hn : l.most = some 63) (hdf : d.params.defaults = [])
    (hY : ∀ (w : World) (h : Heap), YP w h → (K w.params).In h)
    (F : ∀ (w : World) (mg : Str → Option Value) (fa : Addr) (h : Heap), (K w.params).In h → h.Ns mainGlobals mg → mg d.name = some (.ref fa) →
      ∃ fd : FuncData, (∀ (s : Shared) (u : Value), BindsTo s fd ⟨[u], []⟩ [("_law_script", u)]) ∧ ∀ base : Heap, (K w.params).In base → base.Ns mainGlobals mg → FnOk l.prog w (K w.params) mg base CX0 13 fa fd ["_law_script"] (spLaw (K w.params))) :
    PySem.W.WalkO q loose XP YP l.row.toRowW d [] (fun f vs => PySem.call f vs) :=
  L2.walk_of (n := 63) (k := 13) (x := "_law_script") (CX := fun _ => CX0) (sp := fun w => spLaw (K w.params)) hn (by decide) hdf ⟨rfl, by decide, by decide⟩ hY F (fun _ _ a ns hl _ hS => ⟨a, ns, rfl, hS, hl, fun _ => rfl⟩) fun _ _ _ _ _ z => z
end K35
open PySem PySem.W PyProof.Rows
set_option maxRecDepth 100000 in
set_option maxHeartbeats 0 in
theorem PySem.Challenge.cw_lotmeal_k35_whole_mix_walked_holds : PySem.Challenge.rw_lotmeal_k35_whole_mix_walked.Holds := by
  w_on; o_law; k_head; (case hw => w_witness2)
  k_fill
  refine K35.walk (l := PySem.Challenge.rw_lotmeal_k35_whole_mix_walked) rfl rfl (fun w h Y => PySem.W.kIn_of Y) ?F
  case F =>
    intro w mg fa h KX G hmg
    refine' K35.all_mk KX G hmg ?a1 ?l1 ?c1 ?k1 ?a2 ?l2 ?c2 ?k2 ?a3 ?l3 ?c3 ?k3 ?a4 ?l4 ?c4 ?k4 ?a5 ?l5 ?c5 ?k5 ?a6 ?l6 ?c6 ?k6 ?a7 ?l7 ?d7 ?c7 ?k7 ?a8 ?l8 ?c8 ?k8 ?a9 ?l9 ?c9 ?k9 ?a10 ?l10 ?c10 ?k10 ?a11 ?l11 ?c11 ?k11 ?a12 ?l12 ?c12 ?k12 ?a13 ?l13 ?c13 ?k13 ?a14 ?l14 ?c14 ?k14 ?a15 ?l15 ?c15 ?k15 ?a16 ?l16 ?c16 ?k16 ?a17 ?l17 ?c17 ?k17 ?a18 ?l18 ?c18 ?k18 ?a19 ?l19 ?c19 ?k19 ?a20 ?l20 ?c20 ?k20 ?a21 ?l21 ?c21 ?k21 ?a22 ?l22 ?c22 ?k22 ?a23 ?l23 ?c23 ?k23 ?a24 ?l24 ?c24 ?k24 ?a25 ?l25 ?c25 ?k25 ?a26 ?l26 ?c26 ?k26 ?a27 ?l27 ?c27 ?k27 ?a28 ?l28 ?c28 ?k28 ?a29 ?l29 ?c29 ?k29 ?a30 ?l30 ?c30 ?k30 ?a31 ?l31 ?c31 ?k31 ?a32 ?l32 ?c32 ?k32 ?a33 ?l33 ?c33 ?k33 ?z_isinstance ?z_int ?z_bool ?z_list ?z_tuple ?z_len ?z_range ?z_zip ?z_enumerate ?z_sorted ?z_any ?z_all ?z_abs ?z_sum ?z_min ?z_max ?g_MOST
    (case a1 => k_is)
    (case l1 => k_is)
    (case c1 => k_is)
    (case k1 => k_is)
    (case a2 => k_is)
    (case l2 => k_is)
    (case c2 => k_is)
    (case k2 => k_is)
    (case a3 => k_is)
    (case l3 => k_is)
    (case c3 => k_is)
    (case k3 => k_is)
    (case a4 => k_is)
    (case l4 => k_is)
    (case c4 => k_is)
    (case k4 => k_is)
    (case a5 => k_is)
    (case l5 => k_is)
    (case c5 => k_is)
    (case k5 => k_is)
    (case a6 => k_is)
    (case l6 => k_is)
    (case c6 => k_is)
    (case k6 => k_is)
    (case a7 => k_is)
    (case l7 => k_is)
    (case d7 => k_is)
    (case c7 => k_is)
    (case k7 => k_is)
    (case a8 => k_is)
    (case l8 => k_is)
    (case c8 => k_is)
    (case k8 => k_is)
    (case a9 => k_is)
    (case l9 => k_is)
    (case c9 => k_is)
    (case k9 => k_is)
    (case a10 => k_is)
    (case l10 => k_is)
    (case c10 => k_is)
    (case k10 => k_is)
    (case a11 => k_is)
    (case l11 => k_is)
    (case c11 => k_is)
    (case k11 => k_is)
    (case a12 => k_is)
    (case l12 => k_is)
    (case c12 => k_is)
    (case k12 => k_is)
    (case a13 => k_is)
    (case l13 => k_is)
    (case c13 => k_is)
    (case k13 => k_is)
    (case a14 => k_is)
    (case l14 => k_is)
    (case c14 => k_is)
    (case k14 => k_is)
    (case a15 => k_is)
    (case l15 => k_is)
    (case c15 => k_is)
    (case k15 => k_is)
    (case a16 => k_is)
    (case l16 => k_is)
    (case c16 => k_is)
    (case k16 => k_is)
    (case a17 => k_is)
    (case l17 => k_is)
    (case c17 => k_is)
    (case k17 => k_is)
    (case a18 => k_is)
    (case l18 => k_is)
    (case c18 => k_is)
    (case k18 => k_is)
    (case a19 => k_is)
    (case l19 => k_is)
    (case c19 => k_is)
    (case k19 => k_is)
    (case a20 => k_is)
    (case l20 => k_is)
    (case c20 => k_is)
    (case k20 => k_is)
    (case a21 => k_is)
    (case l21 => k_is)
    (case c21 => k_is)
    (case k21 => k_is)
    (case a22 => k_is)
    (case l22 => k_is)
    (case c22 => k_is)
    (case k22 => k_is)
    (case a23 => k_is)
    (case l23 => k_is)
    (case c23 => k_is)
    (case k23 => k_is)
    (case a24 => k_is)
    (case l24 => k_is)
    (case c24 => k_is)
    (case k24 => k_is)
    (case a25 => k_is)
    (case l25 => k_is)
    (case c25 => k_is)
    (case k25 => k_is)
    (case a26 => k_is)
    (case l26 => k_is)
    (case c26 => k_is)
    (case k26 => k_is)
    (case a27 => k_is)
    (case l27 => k_is)
    (case c27 => k_is)
    (case k27 => k_is)
    (case a28 => k_is)
    (case l28 => k_is)
    (case c28 => k_is)
    (case k28 => k_is)
    (case a29 => k_is)
    (case l29 => k_is)
    (case c29 => k_is)
    (case k29 => k_is)
    (case a30 => k_is)
    (case l30 => k_is)
    (case c30 => k_is)
    (case k30 => k_is)
    (case a31 => k_is)
    (case l31 => k_is)
    (case c31 => k_is)
    (case k31 => k_is)
    (case a32 => k_is)
    (case l32 => k_is)
    (case c32 => k_is)
    (case k32 => k_is)
    (case a33 => k_is)
    (case l33 => k_is)
    (case c33 => k_is)
    (case k33 => k_is)
    (case z_isinstance => k_is)
    (case z_int => k_is)
    (case z_bool => k_is)
    (case z_list => k_is)
    (case z_tuple => k_is)
    (case z_len => k_is)
    (case z_range => k_is)
    (case z_zip => k_is)
    (case z_enumerate => k_is)
    (case z_sorted => k_is)
    (case z_any => k_is)
    (case z_all => k_is)
    (case z_abs => k_is)
    (case z_sum => k_is)
    (case z_min => k_is)
    (case z_max => k_is)
    (case g_MOST => k_is)
#print axioms PySem.Challenge.cw_lotmeal_k35_whole_mix_walked_holds
