import PyProof.Rows.All
import Wide.All
import OpenK.AllK
import Wide.FinOn
import Lean
import PyProof.EqAt
import PyProof.EqKinds
import PyProof.TupleCall
import PyProof.NeKinds
import PyProof.ZipIter
import PyProof.WalksEnum
import PyProof.CompUse
import PyProof.ListRange
import PyProof.Rows.SetFrom
import PyProof.Rows.SortWalk
import PyProof.Rows.SeqMore2
import PyProof.SetRoads
import KE.KRevIter
import PyProof.WalksMore
import PyProof.AutoRange
import PyProof.ListNew
import PyProof.Wp
import PyProof.Logic
import PyProof.StationsW
import PyProof.ExcClass2
import OpenK.KGet
import PyProof.Rows.SortRunsK
import PyProof.Rows.SortShellK
import KE.KDictSum
import PyProof.DictTruth
import PyProof.RangeIter
import PyProof.RaisesMany
import PySem.Challenge.RW_lotmeal_k46_told_otherwise
set_option Elab.async false
set_option linter.all false
set_option maxRecDepth 100000
set_option maxHeartbeats 4000000
namespace L2
open PySem PySem.Spec PyProof.Rows
abbrev Key := Sum Int Str
def keyIs : Key → Value → Bool
  | .inl k, v => Value.isInt k v
  | .inr x, v => Value.isStrOf x v
def keyH (w : World) : Key → Int
  | .inl k => hashInt k
  | .inr x => hashStr w x
theorem keyIs_shape : ∀ {k : Key} {v : Value}, keyIs k v = true → (∃ i t, k = Sum.inl i ∧ v = Value.int i t) ∨ (∃ x t, k = Sum.inr x ∧ v = Value.str x t)
  | .inl i, v, h => by
    obtain ⟨t, e⟩ := Value.isInt_shape (k := i) (v := v) h
    exact .inl ⟨i, t, rfl, e⟩
  | .inr x, v, h => by
    obtain ⟨t, e⟩ := Value.isStrOf_shape (x := x) (v := v) h
    exact .inr ⟨x, t, rfl, e⟩
theorem key_ll (a b : Int) : decide ((Sum.inl a : Key) = Sum.inl b) = (a == b) := by
  by_cases e : a = b
  · subst e; simp
  · have h : ¬ (Sum.inl a : Key) = Sum.inl b := fun q => e (Sum.inl.inj q)
    rw [decide_eq_false h]
    exact (beq_eq_false_iff_ne.mpr e).symm
theorem key_rr (a b : Str) : decide ((Sum.inr a : Key) = Sum.inr b) = decide (a = b) := by
  by_cases e : a = b
  · subst e; simp
  · have h : ¬ (Sum.inr a : Key) = Sum.inr b := fun q => e (Sum.inr.inj q)
    rw [decide_eq_false h, decide_eq_false e]
theorem key_lr (a : Int) (b : Str) : decide ((Sum.inl a : Key) = Sum.inr b) = false := decide_eq_false (fun q => nomatch q)
theorem key_rl (a : Str) (b : Int) : decide ((Sum.inr a : Key) = Sum.inl b) = false := decide_eq_false (fun q => nomatch q)
def mixKind (prog : Program) (w : World) : PySem.KeyKind prog w Key where
  is := keyIs
  hash := keyH w
  inj := fun v a b ha hb => by
    rcases keyIs_shape ha with ⟨i, t, rfl, rfl⟩ | ⟨x, t, rfl, rfl⟩
    · rcases keyIs_shape hb with ⟨j, u, rfl, e⟩ | ⟨y, u, rfl, e⟩
      · injection e with e1 _; rw [e1]
      · exact nomatch e
    · rcases keyIs_shape hb with ⟨j, u, rfl, e⟩ | ⟨y, u, rfl, e⟩
      · exact nomatch e
      · injection e with e1 _; rw [e1]
  byValue := fun k v h => by
    rcases keyIs_shape h with ⟨i, t, rfl, rfl⟩ | ⟨x, t, rfl, rfl⟩ <;> rfl
  pyHash := fun hv h => by
    rcases keyIs_shape hv with ⟨i, t, rfl, rfl⟩ | ⟨x, t, rfl, rfl⟩
    · exact wpAny_pyHash_int h
    · exact wpAny_pyHash_str h
  eqBool := fun hu hv h => by
    rcases keyIs_shape hu with ⟨i, t, rfl, rfl⟩ | ⟨x, t, rfl, rfl⟩
    · rcases keyIs_shape hv with ⟨j, u, rfl, rfl⟩ | ⟨y, u, rfl, rfl⟩
      · rw [key_ll] at h; exact wpAny_eqBool_int h
      · rw [key_lr] at h; exact SeqAt.EqAt.int_str i t y u _ _ _ _ h
    · rcases keyIs_shape hv with ⟨j, u, rfl, rfl⟩ | ⟨y, u, rfl, rfl⟩
      · rw [key_rl] at h; exact SeqAt.EqAt.str_int x t j u _ _ _ _ h
      · rw [key_rr] at h; exact wpAny_eqBool_str h
  «strs» := fun k x t v h => by
    rcases keyIs_shape h with ⟨i, u, rfl, e⟩ | ⟨y, u, rfl, e⟩
    · exact nomatch e
    · injection e with e1 _
      subst e1
      cases v <;> rfl
end L2
namespace L2
open PySem PySem.Spec PyProof.Rows
inductive V where
  | non | bl (b : Bool) | int (i : Int) | str (x : Str) | byt (b : Array UInt8) | flt (b : UInt64) | ref (a : Addr) | ty (n : String)
  deriving DecidableEq
def RelV : V → Value → Prop
  | .non, u => u = Value.none
  | .bl b, u => u = Value.bool b
  | .int i, u => ∃ t, u = Value.int i t
  | .str x, u => ∃ t, u = Value.str x t
  | .byt b, u => ∃ t, u = Value.bytes b t
  | .flt b, u => ∃ t, u = Value.float b t
  | .ref a, u => u = Value.ref a
  | .ty n, u => u = Value.type n
abbrev Vals : List V → List Value → Prop := Paired RelV
theorem Vals.length {xs : List V} {us : List Value} (r : Vals xs us) : xs.length = us.length := Paired.length r
theorem Vals.get : ∀ {xs : List V} {us : List Value} {i : Nat} {x : V}, Vals xs us → xs[i]? = some x → ∃ u, us[i]? = some u ∧ RelV x u
  | _, _, _, _, .nil, e => by simp at e
  | _, _, 0, _, .cons r _, e => by simp at e; subst e; exact ⟨_, rfl, r⟩
  | _, _, i + 1, x, .cons _ t, e => by
    obtain ⟨u, h1, h2⟩ := Vals.get (i := i) (x := x) t (by simpa using e)
    exact ⟨u, by simpa using h1, h2⟩
theorem Vals.set {x : V} {u : Value} (r : RelV x u) : ∀ {xs : List V} {us : List Value} (i : Nat), Vals xs us → Vals (xs.set i x) (us.set i u)
  | _, _, _, .nil => .nil
  | _, _, 0, .cons _ t => .cons r t
  | _, _, i + 1, .cons q t => .cons q (Vals.set r i t)
theorem Vals.append : ∀ {xs ys : List V} {us ws : List Value}, Vals xs us → Vals ys ws → Vals (xs ++ ys) (us ++ ws)
  | _, _, _, _, .nil, s => s
  | _, _, _, _, .cons r t, s => .cons r (Vals.append t s)
theorem Vals.take : ∀ {xs : List V} {us : List Value} (n : Nat), Vals xs us → Vals (xs.take n) (us.take n)
  | _, _, 0, _ => .nil
  | _, _, _ + 1, .nil => .nil
  | _, _, n + 1, .cons r t => .cons r (Vals.take n t)
theorem Vals.drop : ∀ {xs : List V} {us : List Value} (n : Nat), Vals xs us → Vals (xs.drop n) (us.drop n)
  | _, _, 0, r => r
  | _, _, _ + 1, .nil => .nil
  | _, _, n + 1, .cons _ t => Vals.drop n t
def RelO : Option V → Option Value → Prop
  | some v, some u => RelV v u
  | none, none => True
  | _, _ => False
def KV {κ : Type} : List (κ × V) → List (κ × Value) → Prop := Paired fun (p : κ × V) (q : κ × Value) => p.1 = q.1 ∧ RelV p.2 q.2
def kV : Key → V
  | .inl i => .int i
  | .inr x => .str x
inductive HO where
  | lst (xs : List V)
  | tup (xs : List V)
  | dK (kvs : List (Key × V)) | dT (kvs : List (List Key × V))
  | set (S : Int → Bool) (n : Nat)
  | ins (C dx : Addr) (fs : List (Str × V))
  | own (x : Addr)
  | xd (fs : List (Str × V))
  | met (f x : Addr)
  | rng (lo hi : Int)
  | frz (o : Obj) (u : HO)
  | tbl (ps : Array Value)
  | ext (φ : Heap → Prop)
abbrev Hp := Addr → Option HO
def upd (H : Hp) (a : Addr) (o : HO) : Hp := fun b => if b = a then some o else H b
theorem upd_same {H : Hp} {a : Addr} {o : HO} : upd H a o a = some o := by unfold upd; rw [if_pos rfl]
theorem upd_ne {H : Hp} {a b : Addr} {o : HO} (h : b ≠ a) : upd H a o b = H b := by unfold upd; rw [if_neg h]
theorem upd_upd {H : Hp} {a : Addr} {o u : HO} : upd (upd H a o) a u = upd H a u := by
  funext b; unfold upd; split <;> rfl
theorem ne_of_none {H : Hp} {a b : Addr} {o : HO} (h : H a = some o) (h' : H b = none) : a ≠ b := by
  intro e; subst e; rw [h] at h'; cases h'
section
variable (P : Program) (w : World)
def ObjOk (H : Hp) (h : Heap) (a : Addr) : HO → Prop
  | .lst xs => xs.length ≤ sizeLine ∧ ∃ (its : List Value) (n : Nat), Vals xs its ∧ h.get? a = some { cls := .type "list", data := .seq its.toArray n }
  | .tup xs => xs.length ≤ sizeLine ∧ ∃ its : List Value, Vals xs its ∧ IsTup h a its.toArray
  | .dK kvs => kvs.length ≤ sizeLine ∧ (a == sysModules) = false ∧ ∃ vs, KV kvs vs ∧ h.DictOf (mixKind P w) a vs
  | .dT kvs => kvs.length ≤ sizeLine ∧ (a == sysModules) = false ∧ ∃ xs : List (List Key × Addr × Value),
      Paired (fun (p : List Key × V) (q : List Key × Addr × Value) => p.1 = q.1 ∧ H q.2.1 = some (.tup (p.1.map kV)) ∧ RelV p.2 q.2.2) kvs xs ∧
      ∃ o es ep, h.get? a = some o ∧ o.ExactDict ∧ o.data = .dict es ep ∧ es.toList = xs.map (entryOfKey (tupleKind (mixKind P w))) ∧ (xs.map (·.1)).Nodup
  | .set S n => h.SetOf (intKind P w) a S n
  | .ins C dx fs => H dx = some (.own a) ∧ fs.length ≤ 1000 ∧ dx ≠ a ∧ h.get? a = some (PySem.W.instObj C dx) ∧
      ∃ mA, h.Ns1 dx mA ∧ (∀ f, RelO (fs.lookup f) (mA f)) ∧ PySem.Within mA (fs.map (·.1))
  | .own _ => ∃ o, h.get? a = some o
  | .xd fs => ∃ mA, h.Ns1 a mA ∧ ∀ f, RelO (fs.lookup f) (mA f)
  | .rng lo hi => ∃ t u v, h.get? a = some { cls := .type "range", data := .fields #[.int lo t, .int hi u, .int 1 v] }
  | .frz o u => h.get? a = some o ∧ ObjOk H h a u
  | .tbl ps => h.get? a = some { cls := .none, data := .fields ps }
  | .met f x => h.get? a = some (PySem.W.methodObj (.ref f) (.ref x))
  | .ext φ => φ h ∧ (∃ o, h.get? a = some o) ∧ ∀ h1 h2 : Heap, φ h1 → (∀ o, h1.get? a = some o → h2.get? a = some o) → φ h2
def HOk (H : Hp) (h : Heap) : Prop := ∀ a o, H a = some o → ObjOk P w H h a o
end
section
variable {P : Program} {w : World} {H H' : Hp} {h h' : Heap} {a : Addr} {o : HO}
theorem ObjOk.lt (x : ObjOk P w H h a o) : a < h.objs.size := by
  cases o with
  | lst xs => obtain ⟨_, _, _, _, e⟩ := x; exact Heap.lt_size e
  | tup xs => obtain ⟨_, _, _, p⟩ := x; exact p.lt
  | dK kvs => obtain ⟨_, _, _, _, o, _, _, e, _⟩ := x; exact Heap.lt_size e
  | dT kvs => obtain ⟨_, _, _, _, o, _, _, e, _⟩ := x; exact Heap.lt_size e
  | set S n => obtain ⟨o, _, _, _, e, _⟩ := x; exact Heap.lt_size e
  | ins C dx fs => obtain ⟨_, _, _, e, _⟩ := x; exact Heap.lt_size e
  | own y => obtain ⟨_, e⟩ := x; exact Heap.lt_size e
  | xd fs => obtain ⟨_, ⟨_, _, _, e, _⟩, _⟩ := x; exact Heap.lt_size e
  | rng lo hi => obtain ⟨_, _, _, e⟩ := x; exact Heap.lt_size e
  | frz ob u => obtain ⟨e, _⟩ := x; exact Heap.lt_size e
  | tbl ps => exact Heap.lt_size (show h.get? a = some _ from x)
  | met f y => exact Heap.lt_size (show h.get? a = some _ from x)
  | ext φ => obtain ⟨_, ⟨_, e⟩, _⟩ := x; exact Heap.lt_size e
theorem Paired.mapP {α β : Type} {F G : α → β → Prop} : ∀ {l₁ : List α} {l₂ : List β}, Paired F l₁ l₂ → (∀ a b, F a b → G a b) → Paired G l₁ l₂
  | _, _, .nil, _ => .nil
  | _, _, .cons r t, f => .cons (f _ _ r) (Paired.mapP t f)
theorem ObjOk.stay (x : ObjOk P w H h a o) (k : ∀ b u, (b = a ∨ H b = some (.own a)) → h.get? b = some u → h'.get? b = some u)
    (ho : ∀ b, H b = some (.own a) → H' b = some (.own a)) (ht : ∀ b xs, H b = some (.tup xs) → H' b = some (.tup xs)) : ObjOk P w H' h' a o := by
  induction o with
  | lst xs => obtain ⟨z, its, n, r, e⟩ := x; exact ⟨z, its, n, r, k _ _ (.inl rfl) e⟩
  | tup xs => obtain ⟨z, its, r, ob, e, c⟩ := x; exact ⟨z, its, r, ob, k _ _ (.inl rfl) e, c⟩
  | dK kvs => obtain ⟨z, y, vs, r, ob, es, ep, e, c⟩ := x; exact ⟨z, y, vs, r, ob, es, ep, k _ _ (.inl rfl) e, c⟩
  | dT kvs =>
    obtain ⟨z, y, xs, r, ob, es, ep, e, c⟩ := x
    exact ⟨z, y, xs, Paired.mapP r fun p q z => ⟨z.1, ht _ _ z.2.1, z.2.2⟩, ob, es, ep, k _ _ (.inl rfl) e, c⟩
  | set S n => obtain ⟨ob, es, ep, t, e, c⟩ := x; exact ⟨ob, es, ep, t, k _ _ (.inl rfl) e, c⟩
  | ins C dx fs =>
    obtain ⟨d, z, ne, e, mA, ⟨od, es, ep, e2, c⟩, r⟩ := x
    exact ⟨ho _ d, z, ne, k _ _ (.inl rfl) e, mA, ⟨od, es, ep, k _ _ (.inr d) e2, c⟩, r⟩
  | own y => obtain ⟨ob, e⟩ := x; exact ⟨ob, k _ _ (.inl rfl) e⟩
  | xd fs => obtain ⟨mA, ⟨od, es, ep, e, c⟩, r⟩ := x; exact ⟨mA, ⟨od, es, ep, k _ _ (.inl rfl) e, c⟩, r⟩
  | rng lo hi => obtain ⟨t, u, v, e⟩ := x; exact ⟨t, u, v, k _ _ (.inl rfl) e⟩
  | frz ob u ih => obtain ⟨e, q⟩ := x; exact ⟨k _ _ (.inl rfl) e, ih q⟩
  | tbl ps =>
    have e : h.get? a = some { cls := .none, data := .fields ps } := x
    show h'.get? a = some { cls := .none, data := .fields ps }
    exact k a _ (.inl rfl) e
  | met f y =>
    have e : h.get? a = some (PySem.W.methodObj (.ref f) (.ref y)) := x
    show h'.get? a = some (PySem.W.methodObj (.ref f) (.ref y))
    exact k a _ (.inl rfl) e
  | ext φ => obtain ⟨p, ⟨o, e⟩, st⟩ := x; exact ⟨st _ _ p fun o q => k _ _ (.inl rfl) q, ⟨o, k _ _ (.inl rfl) e⟩, st⟩
theorem HOk.lt (x : HOk P w H h) (e : H a = some o) : a < h.objs.size := (x a o e).lt
theorem HOk.fresh (x : HOk P w H h) (e : h.objs.size ≤ a) : H a = none := by
  cases q : H a with
  | none => rfl
  | some u => exact absurd (Nat.lt_of_lt_of_le (x.lt q) e) (Nat.lt_irrefl _)
theorem HOk.kept (x : HOk P w H h) (k : ∀ b u, h.get? b = some u → h'.get? b = some u) : HOk P w H h' := fun a o e =>
  (x a o e).stay (fun b u _ q => k b u q) (fun _ q => q) fun _ _ q => q
theorem HOk.laid (x : HOk P w H h) (k : ∀ b u, h.get? b = some u → h'.get? b = some u) (hp : h.objs.size ≤ a) (new : ObjOk P w (upd H a o) h' a o) : HOk P w (upd H a o) h' := fun b u e => by
  have hn := x.fresh hp
  by_cases hb : b = a
  · subst hb; rw [upd_same] at e; cases e; exact new
  · rw [upd_ne hb] at e
    exact (x b u e).stay (fun c v _ q => k c v q) (fun c q => by rw [upd_ne (ne_of_none q hn)]; exact q) fun c xs q => by rw [upd_ne (ne_of_none q hn)]; exact q
end
def Rd (H : Hp) (a : Addr) (u : HO) : Prop := H a = some u ∨ ∃ o, H a = some (.frz o u)
theorem Rd.ok {P : Program} {w : World} {H : Hp} {h : Heap} {a : Addr} {u : HO} (r : Rd H a u) (x : HOk P w H h) : ObjOk P w H h a u := by
  rcases r with r | ⟨o, r⟩
  · exact x a u r
  · obtain ⟨_, q⟩ := x a _ r
    exact q
def Mut : Option HO → Prop
  | some (.lst _) => True
  | some (.dK _) => True
  | some (.dT _) => True
  | some (.set _ _) => True
  | some (.ins _ _ _) => True
  | some (.ext _) => True
  | _ => False
section
variable {P : Program} {w : World} {H : Hp} {h h' : Heap} {x e : Addr} {o' : HO}
theorem HOk.write (ok : HOk P w H h) (mu : Mut (H x)) (he : e = x ∨ H e = some (.own x)) (k : ∀ b u, b ≠ e → h.get? b = some u → h'.get? b = some u) (heo : ∃ u, h'.get? e = some u)
    (new : ObjOk P w (upd H x o') h' x o') : HOk P w (upd H x o') h' := fun b u q => by
  have nown : ∀ c y, H c = some (.own y) → c ≠ x := fun c y r z => by subst z; rw [r] at mu; exact mu
  have ntup : ∀ c xs, H c = some (.tup xs) → c ≠ x := fun c xs r z => by subst z; rw [r] at mu; exact mu
  by_cases hb : b = x
  · subst hb; rw [upd_same] at q; cases q; exact new
  · rw [upd_ne hb] at q
    by_cases hbe : b = e
    · have q' : H b = some (.own x) := by
        rcases he with z | z
        · exact absurd (hbe.trans z) hb
        · rw [hbe]; exact z
      rw [q] at q'; cases q'
      obtain ⟨v, hv⟩ := heo
      exact ⟨v, by rw [hbe]; exact hv⟩
    · refine (ok b u q).stay (fun c v hc r => k c v ?_ r) (fun c r => by rw [upd_ne (nown c b r)]; exact r) fun c xs r => by rw [upd_ne (ntup c xs r)]; exact r
      rcases hc with rfl | hc
      · exact hbe
      · rintro rfl
        rcases he with z | z
        · exact nown c b hc z
        · rw [hc] at z; cases z; exact hb rfl
end
structure Un (fs ex : List Addr) (H H' : Hp) (h h' : Heap) : Prop where
  keep : ∀ b o, h.get? b = some o → H b = none → b ∉ fs → b ∉ ex → h'.get? b = some o
  slot : ∀ b o, h.get? b = some o → H b = none → b ∈ fs → b ∉ ex → ∃ sl, h'.get? b = some { o with slots := sl }
  free : ∀ b o, h.get? b = some o → H b = none → b ∉ ex → H' b = none
  there : ∀ b o, h.get? b = some o → b ∉ ex → ∃ o', h'.get? b = some o'
  tups : ∀ b xs, H b = some (.tup xs) → H' b = some (.tup xs)
  frzs : ∀ b o u, H b = some (.frz o u) → H' b = some (.frz o u)
  tbls : ∀ b ps, H b = some (.tbl ps) → ∃ more, H' b = some (.tbl (ps ++ more))
section
variable {fs fs' ex ex' : List Addr} {H H1 H2 : Hp} {h h1 h2 h' : Heap} {a x e : Addr} {o : HO}
theorem Un.any (u : Un fs ex H H1 h h1) {b : Addr} {ob : Obj} (q : h.get? b = some ob) (n : H b = none) (hx : b ∉ ex) : ∃ sl, h1.get? b = some { ob with slots := sl } := by
  by_cases hb : b ∈ fs
  · exact u.slot b ob q n hb hx
  · exact ⟨ob.slots, u.keep b ob q n hb hx⟩
theorem Un.kept (k : ∀ b u, h.get? b = some u → h'.get? b = some u) : Un fs ex H H h h' :=
  ⟨fun b ob q _ _ _ => k b ob q, fun b ob q _ _ _ => ⟨ob.slots, k b ob q⟩, fun _ _ _ n _ => n, fun b ob q _ => ⟨ob, k b ob q⟩, fun _ _ q => q, fun _ _ _ q => q, fun _ ps q => ⟨#[], by rw [q]; simp⟩⟩
theorem Un.refl : Un fs ex H H h h := Un.kept fun _ _ q => q
theorem Un.laid (k : ∀ b u, h.get? b = some u → h'.get? b = some u) (hp : h.objs.size ≤ a) (hn : H a = none) : Un fs ex H (upd H a o) h h' where
  keep := fun b u q _ _ _ => k b u q
  slot := fun b u q _ _ _ => ⟨u.slots, k b u q⟩
  free := fun b u q n _ => by rw [upd_ne (Nat.ne_of_lt (Nat.lt_of_lt_of_le (Heap.lt_size q) hp))]; exact n
  there := fun b u q _ => ⟨u, k b u q⟩
  tups := fun b xs q => by rw [upd_ne (ne_of_none q hn)]; exact q
  frzs := fun b u xs q => by rw [upd_ne (ne_of_none q hn)]; exact q
  tbls := fun b ps q => ⟨#[], by rw [upd_ne (ne_of_none q hn), q]; simp⟩
theorem Un.write (mu : Mut (H x)) (he : e = x ∨ H e = some (.own x)) (k : ∀ b u, b ≠ e → h.get? b = some u → h'.get? b = some u) (heo : ∃ u, h'.get? e = some u) : Un fs ex H (upd H x o) h h' := by
  have hx : ∀ b, H b = none → b ≠ x := fun b n z => by subst z; rw [n] at mu; exact mu
  have hb : ∀ b, H b = none → b ≠ e := fun b n z => by
    subst z
    rcases he with r | r
    · exact hx b n r
    · rw [n] at r; cases r
  have hm : ∀ b u, H b = some u → ¬ Mut (some u) → b ≠ x := fun b u q nm z => by subst z; rw [q] at mu; exact nm mu
  refine ⟨fun b u q n _ _ => k b u (hb b n) q, fun b u q n _ _ => ⟨u.slots, k b u (hb b n) q⟩, fun b u q n _ => by rw [upd_ne (hx b n)]; exact n, fun b u q _ => ?_,
    fun b xs q => by rw [upd_ne (hm b _ q fun z => z)]; exact q, fun b u xs q => by rw [upd_ne (hm b _ q fun z => z)]; exact q, fun b ps q => ⟨#[], by rw [upd_ne (hm b _ q fun z => z), q]; simp⟩⟩
  by_cases hbe : b = e
  · subst hbe; exact heo
  · exact ⟨u, k b u hbe q⟩
end
def trk (h : Heap) (H : Hp) : List Addr := (List.range h.objs.size).filter fun a => (H a).isSome
def hidT (h : Heap) (H : Hp) : Heap := PySem.W.hideAll h (trk h H)
theorem hidT_size (h : Heap) (H : Hp) : (hidT h H).objs.size = h.objs.size := PySem.W.hideAll_size _ _
theorem hidT_get {h : Heap} {H : Hp} {b : Addr} {o : Obj} (e : h.get? b = some o) (n : H b = none) : (hidT h H).get? b = some o :=
  PySem.W.hideAll_get _ e fun hm => by
    have q : (H b).isSome = true := (List.mem_filter.mp hm).2
    rw [n] at q; simp at q
theorem of_hidT {h : Heap} {H : Hp} {b : Addr} {o : Obj} (e : (hidT h H).get? b = some o) : h.get? b = some o ∧ H b = none := by
  have e' : h.get? b = some o := PySem.W.of_hideAll (trk h H) e
  refine ⟨e', ?_⟩
  cases q : H b with
  | none => rfl
  | some x =>
    have hm : b ∈ trk h H := List.mem_filter.mpr ⟨List.mem_range.mpr (Heap.lt_size e'), by simp [q]⟩
    have z : (hidT h H).get? b = none := PySem.W.hideAll_none (trk h H) hm
    rw [z] at e; cases e
end L2
namespace L2
open PySem PySem.Spec PyProof.Rows
structure Mod (K : PySem.W.Frag) (mg : Str → Option Value) (base : Heap) : Prop where
  kin : K.In base
  glob : base.Ns mainGlobals mg
  blt : ∃ mb, base.Ns builtinsNs mb ∧ ∀ x : Str, x ≠ "__name__" → mb x = bootBuiltins x
  nolimit : base.NoLimit
structure Cx where
  prog : Program
  w : World
  K : PySem.W.Frag
  mg : Str → Option Value
  base : Heap
  A : Around
  N : List Str
  s₀ : Shared
  H₀ : Hp
  env : Env
  outer : List Env
  stack : List Env
  ex : List Addr
  fn : Str → Bool
  calm : Bool
  pn : List (Addr × Obj)
  xe : Value → Shared → Prop
def frs (l : List Env) : List Addr := l.filterMap (·.frame)
abbrev Cx.fs (X : Cx) : List Addr := frs X.outer
def Vis (sc : Scope) (x : Str) : Prop := sc.names.lookup x = some .local ∨ sc.names.lookup x = some .cell ∨ sc.names.lookup x = some .free
def Loc (sc : Scope) (x : Str) : Prop := sc.names.lookup x = some .local ∨ sc.names.lookup x = some .cell
def Look (env : Env) (h : Heap) (m : Str → Option Value) (x : Str) (u : Value) : Prop :=
  (env.kindOf x = some .local ∧ m x = some u) ∨ ((env.kindOf x = some .cell ∨ env.kindOf x = some .free) ∧ ∃ c, env.cells.lookup x = some c ∧ h.IsCell c (some u))
structure Cx.Ok (X : Cx) : Prop where
  mod : Mod X.K X.mg X.base
  kind : X.env.scope.kind = .function
  glob : X.env.globals = mainGlobals
  blt : X.env.builtins = builtinsNs
  above : X.s₀.heap.objs.size ≤ X.env.locals
  inj : ∀ x y c, X.env.cells.lookup x = some c → X.env.cells.lookup y = some c → x = y
  has : ∀ x, (X.env.kindOf x = some .cell ∨ X.env.kindOf x = some .free) → ∃ c, X.env.cells.lookup x = some c
  cab : ∀ x c, X.fn x = true → X.env.cells.lookup x = some c → X.s₀.heap.objs.size ≤ c
  hd : X.calm = true → X.A.handled = none
  frames : X.A.frames = some X.stack
  stk : X.stack = X.outer ∨ (X.stack = X.env :: X.outer ∧ X.env.frame = some X.env.locals)
  exf : ∀ b ∈ X.ex, b ≠ X.env.locals ∧ ∀ x c, X.env.cells.lookup x = some c → c ≠ b
  bs : ∀ b o, X.base.get? b = some o → X.s₀.heap.get? b = some o ∧ X.H₀ b = none
  bsz : X.base.objs.size ≤ X.s₀.heap.objs.size
  noex : ∀ b o, X.base.get? b = some o → b ∉ X.ex
  exfs : ∀ b ∈ X.ex, b ∉ X.fs
  funs : X.s₀.heap.FunFrames X.base X.outer
  frf : ∀ b ∈ X.fs, X.H₀ b = none
structure Inv (X : Cx) (pins : List (Addr × Obj)) (σ : List (Option V)) (H : Hp) (s : Shared) : Prop where
  ok : X.Ok
  os : s.os = X.s₀.os
  bare : AllBare s.gens
  base : Un X.fs X.ex X.H₀ H X.s₀.heap s.heap
  loc : ∃ m, s.heap.Ns X.env.locals m ∧ ∀ (i : Nat) (x : Str) (v : V), X.N[i]? = some x → σ[i]? = some (some v) → Vis X.env.scope x → ∃ u, RelV v u ∧ Look X.env s.heap m x u
  cell : ∀ x c, X.env.cells.lookup x = some c → ∃ v, s.heap.IsCell c v
  free : H X.env.locals = none
  freeC : ∀ x c, X.env.cells.lookup x = some c → H c = none
  pin : ∀ p ∈ X.pn ++ pins, s.heap.get? p.1 = some p.2 ∧ H p.1 = none ∧ p.1 ≠ X.env.locals ∧ p.1 ∉ X.fs ∧ ∀ v, p.2.data ≠ .cell v
  hok : HOk X.prog X.w H s.heap
  len : σ.length = X.N.length
section
variable {X : Cx} {pins : List (Addr × Obj)} {σ : List (Option V)} {H H' : Hp} {s : Shared} {h' : Heap}
theorem Cx.Ok.nofr (ok : X.Ok) {b : Addr} {o : Obj} (e : X.base.get? b = some o) : b ∉ X.fs := fun hb => by
  have := (ok.funs.mem hb).1
  rw [e] at this; cases this
theorem Inv.bs (I : Inv X pins σ H s) : ∀ b o, X.base.get? b = some o → s.heap.get? b = some o ∧ H b = none := fun b o e =>
  ⟨I.base.keep b o (I.ok.bs b o e).1 (I.ok.bs b o e).2 (I.ok.nofr e) (I.ok.noex b o e), I.base.free b o (I.ok.bs b o e).1 (I.ok.bs b o e).2 (I.ok.noex b o e)⟩
theorem Inv.bk (I : Inv X pins σ H s) : ∀ b o, X.base.get? b = some o → s.heap.get? b = some o := fun b o e => (I.bs b o e).1
theorem Inv.mod (I : Inv X pins σ H s) : Mod X.K X.mg X.base := I.ok.mod
theorem Inv.kIn (I : Inv X pins σ H s) : X.K.In s.heap := I.ok.mod.kin.keeps I.bk
theorem Inv.lt (I : Inv X pins σ H s) : X.env.locals < s.heap.objs.size := let ⟨_, hn, _⟩ := I.loc; hn.lt
theorem Inv.sz (I : Inv X pins σ H s) : X.s₀.heap.objs.size ≤ s.heap.objs.size := Nat.le_trans I.ok.above (Nat.le_of_lt I.lt)
theorem Inv.nofs (I : Inv X pins σ H s) {a : Addr} (h : s.heap.objs.size ≤ a) : a ∉ X.fs := fun hb => by
  obtain ⟨_, o, ho, _⟩ := I.ok.funs.mem hb
  exact absurd (Nat.lt_of_lt_of_le (Heap.lt_size ho) (Nat.le_trans I.sz h)) (Nat.lt_irrefl _)
theorem Inv.cne (I : Inv X pins σ H s) : ∀ x c, X.env.cells.lookup x = some c → c ≠ X.env.locals := fun x c e z => by
  obtain ⟨v, o, ho, hd⟩ := I.cell x c e
  obtain ⟨m, ⟨o', es, ep, ho', hd', _⟩, _⟩ := I.loc
  rw [z, ho'] at ho; cases ho; rw [hd'] at hd; cases hd
theorem Inv.funs (I : Inv X pins σ H s) : s.heap.FunFrames X.base X.outer := by
  have all : ∀ (l : List Env), (∀ b ∈ frs l, b ∈ X.fs) → X.s₀.heap.FunFrames X.base l → s.heap.FunFrames X.base l := by
    intro l
    induction l with
    | nil => intro _ _; trivial
    | cons env r ih =>
      intro hs hl
      obtain ⟨hk, ⟨L, o, hf, hn, ho, hd⟩, hr⟩ := hl
      have hL : L ∈ X.fs := hs L (by unfold frs; rw [List.filterMap_cons, hf]; exact List.mem_cons_self)
      obtain ⟨sl, e⟩ := I.base.slot L o ho (I.ok.frf L hL) hL fun z => I.ok.exfs L z hL
      exact ⟨hk, ⟨L, _, hf, hn, e, hd⟩, ih (fun b hb => hs b (by unfold frs; rw [List.filterMap_cons, hf]; exact List.mem_cons_of_mem _ hb)) hr⟩
  exact all X.outer (fun _ hb => hb) I.ok.funs
theorem Inv.stack (I : Inv X pins σ H s) : s.heap.FunFrames X.base X.stack := by
  rcases I.ok.stk with e | ⟨e, hf⟩
  · rw [e]; exact I.funs
  · rw [e]
    obtain ⟨m, hn, _⟩ := I.loc
    refine .cons (by rw [I.ok.kind]; decide) hf hn ?_ I.funs
    exact Heap.get?_none_of_le (Nat.le_trans I.ok.bsz I.ok.above)
theorem Inv.stkSub (I : Inv X pins σ H s) : ∀ b ∈ frs X.stack, b ∈ X.env.locals :: X.fs := fun b hb => by
  rcases I.ok.stk with e | ⟨e, hf⟩
  · rw [e] at hb; exact List.mem_cons_of_mem _ hb
  · rw [e] at hb
    unfold frs at hb
    rw [List.filterMap_cons, hf] at hb
    exact hb
theorem Inv.stkFree (I : Inv X pins σ H s) : ∀ b ∈ frs X.stack, H b = none := fun b hb => by
  rcases List.mem_cons.mp (I.stkSub b hb) with e | hb
  · rw [e]; exact I.free
  · obtain ⟨_, o, ho, _⟩ := I.ok.funs.mem hb
    exact I.base.free b o ho (I.ok.frf b hb) fun z => I.ok.exfs b z hb
theorem Inv.step {g' : Array GenState} {t' : Nat} {d' : Drawn} {ch : List Addr} (I : Inv X pins σ H s)
    (hch : ∀ b ∈ ch, (b ∈ X.ex ∨ X.s₀.heap.objs.size ≤ b) ∧ b ≠ X.env.locals ∧ (∀ x c, X.env.cells.lookup x = some c → c ≠ b) ∧ ∀ p ∈ X.pn ++ pins, p.1 ≠ b)
    (keep : ∀ b o, b ≠ X.env.locals → b ∉ X.fs → b ∉ ch → s.heap.get? b = some o → H b = none → h'.get? b = some o)
    (slot : ∀ b o, b ≠ X.env.locals → b ∈ X.fs → b ∉ ch → s.heap.get? b = some o → H b = none → ∃ sl, h'.get? b = some { o with slots := sl }) (free : ∀ b o, b ∉ ch → s.heap.get? b = some o → H b = none → H' b = none)
    (there : ∀ b o, b ∉ ch → s.heap.get? b = some o → ∃ o', h'.get? b = some o')
    (tups : ∀ b xs, H b = some (.tup xs) → H' b = some (.tup xs)) (frzs : ∀ b o u, H b = some (.frz o u) → H' b = some (.frz o u)) (tbls : ∀ b ps, H b = some (.tbl ps) → ∃ more, H' b = some (.tbl (ps ++ more)))
    (ns : ∀ m, s.heap.Ns X.env.locals m → h'.Ns X.env.locals m) (hok : HOk X.prog X.w H' h') (hg : AllBare g') :
    Inv X pins σ H' { s with heap := h', gens := g', drawn := d', toks := t' } := by
  have neL : ∀ b o, X.s₀.heap.get? b = some o → b ≠ X.env.locals := fun b o e => Nat.ne_of_lt (Nat.lt_of_lt_of_le (Heap.lt_size e) I.ok.above)
  have neC : ∀ b o, X.s₀.heap.get? b = some o → b ∉ X.ex → b ∉ ch := fun b o e hx hb => by
    rcases (hch b hb).1 with z | z
    · exact hx z
    · exact absurd (Nat.lt_of_lt_of_le (Heap.lt_size e) z) (Nat.lt_irrefl _)
  have cellK : ∀ x c, X.env.cells.lookup x = some c → ∀ v, s.heap.IsCell c v → h'.IsCell c v := fun x c e v ⟨o, ho, hd⟩ => by
    have nch : c ∉ ch := fun z => (hch c z).2.2.1 x c e rfl
    by_cases hc : c ∈ X.fs
    · obtain ⟨sl, q⟩ := slot c o (I.cne x c e) hc nch ho (I.freeC x c e)
      exact ⟨_, q, hd⟩
    · exact ⟨o, keep c o (I.cne x c e) hc nch ho (I.freeC x c e), hd⟩
  refine ⟨I.ok, I.os, hg, ⟨fun b o e n hb hx => ?_, fun b o e n hb hx => ?_, fun b o e n hx => ?_, fun b o e hx => ?_, fun b xs e => tups b xs (I.base.tups b xs e), fun b o xs e => frzs b o xs (I.base.frzs b o xs e), fun b ps e => ?_⟩, ?_, fun x c e => ?_, ?_, fun x c e => ?_, fun p hp => ?_, hok, I.len⟩
  · exact keep b o (neL b o e) hb (neC b o e hx) (I.base.keep b o e n hb hx) (I.base.free b o e n hx)
  · obtain ⟨sl, e1⟩ := I.base.slot b o e n hb hx
    obtain ⟨sl', e2⟩ := slot b _ (neL b o e) hb (neC b o e hx) e1 (I.base.free b o e n hx)
    exact ⟨sl', e2⟩
  · obtain ⟨o', e1⟩ := I.base.there b o e hx
    exact free b o' (neC b o e hx) e1 (I.base.free b o e n hx)
  · obtain ⟨o', e1⟩ := I.base.there b o e hx
    exact there b o' (neC b o e hx) e1
  · obtain ⟨m1, e1⟩ := I.base.tbls b ps e
    obtain ⟨m2, e2⟩ := tbls b _ e1
    exact ⟨m1 ++ m2, by rw [e2, Array.append_assoc]⟩
  · obtain ⟨m, hn, hl⟩ := I.loc
    refine ⟨m, ns m hn, fun i x v e1 e2 e3 => ?_⟩
    obtain ⟨u, r, l⟩ := hl i x v e1 e2 e3
    refine ⟨u, r, ?_⟩
    rcases l with l | ⟨k, c, e, z⟩
    · exact .inl l
    · exact .inr ⟨k, c, e, cellK x c e _ z⟩
  · obtain ⟨v, z⟩ := I.cell x c e
    exact ⟨v, cellK x c e v z⟩
  · obtain ⟨m, ⟨o, _, _, ho, _⟩, _⟩ := I.loc
    exact free _ o (fun z => (hch _ z).2.1 rfl) ho I.free
  · obtain ⟨v, o, ho, hd⟩ := I.cell x c e
    exact free c o (fun z => (hch c z).2.2.1 x c e rfl) ho (I.freeC x c e)
  · obtain ⟨e, n, ne, nf, d⟩ := I.pin p hp
    have nch : p.1 ∉ ch := fun z => (hch p.1 z).2.2.2 p hp rfl
    exact ⟨keep p.1 p.2 ne nf nch e n, free p.1 p.2 nch e n, ne, nf, d⟩
theorem Inv.un {t' : Nat} (I : Inv X pins σ H s) (u : Un X.fs [] H H' s.heap h') (hok : HOk X.prog X.w H' h') : Inv X pins σ H' { s with heap := h', toks := t' } := by
  obtain ⟨m, ⟨o, es, ep, ho, r⟩, _⟩ := id I.loc
  obtain ⟨sl, hL⟩ := u.any ho I.free (by simp)
  exact I.step (g' := s.gens) (d' := s.drawn) (ch := []) (fun _ z => nomatch z) (fun b o _ hb _ e n => u.keep b o e n hb (by simp)) (fun b o _ hb _ e n => u.slot b o e n hb (by simp)) (fun b o _ e n => u.free b o e n (by simp)) (fun b o _ e => u.there b o e (by simp)) u.tups u.frzs u.tbls (fun m' hm => by
    obtain ⟨o', es', ep', ho', r'⟩ := hm
    rw [ho] at ho'; cases ho'
    exact ⟨_, es', ep', hL, r'⟩) hok I.bare
theorem Inv.call {g' : Array GenState} {t' : Nat} {d' : Drawn} {ch : List Addr} (I : Inv X pins σ H s) (u : Un (frs X.stack) ch H H' s.heap h') (hok : HOk X.prog X.w H' h') (hg : AllBare g')
    (hch : ∀ b ∈ ch, (b ∈ X.ex ∨ X.s₀.heap.objs.size ≤ b) ∧ b ≠ X.env.locals ∧ (∀ x c, X.env.cells.lookup x = some c → c ≠ b) ∧ ∀ p ∈ X.pn ++ pins, p.1 ≠ b) :
    Inv X pins σ H' { s with heap := h', gens := g', drawn := d', toks := t' } := by
  obtain ⟨m, ⟨o, es, ep, ho, r⟩, _⟩ := id I.loc
  obtain ⟨sl, hL⟩ := u.any ho I.free fun z => (hch _ z).2.1 rfl
  exact I.step (ch := ch) hch (fun b o hL hb hc e n => u.keep b o e n (fun z => (List.mem_cons.mp (I.stkSub b z)).elim hL hb) hc) (fun b o _ _ hc e n => u.any e n hc) (fun b o hc e n => u.free b o e n hc) (fun b o hc e => u.there b o e hc) u.tups u.frzs u.tbls (fun m' hm => by
    obtain ⟨o', es', ep', ho', r'⟩ := hm
    rw [ho] at ho'; cases ho'
    exact ⟨_, es', ep', hL, r'⟩) hok hg
theorem Inv.turned {t' : Nat} {it : Addr} (I : Inv X pins σ H s) (k : ∀ b o, b ≠ it → s.heap.get? b = some o → h'.get? b = some o) (hn : H it = none) (hL : it ≠ X.env.locals)
    (h1 : it ∈ X.ex ∨ X.s₀.heap.objs.size ≤ it) (h2 : ∀ x c, X.env.cells.lookup x = some c → c ≠ it) (h3 : ∀ p ∈ X.pn ++ pins, p.1 ≠ it) : Inv X pins σ H { s with heap := h', toks := t' } := by
  have nit : ∀ b u, H b = some u → b ≠ it := fun b u e z => by rw [z, hn] at e; cases e
  refine I.step (g' := s.gens) (d' := s.drawn) (ch := [it]) (fun b hb => ?_) (fun b o _ _ hc e _ => k b o (fun z => hc (by simp [z])) e) (fun b o _ _ hc e _ => ⟨o.slots, k b o (fun z => hc (by simp [z])) e⟩) (fun _ _ _ _ n => n)
    (fun b o hc e => ⟨o, k b o (fun z => hc (by simp [z])) e⟩) (fun _ _ e => e) (fun _ _ _ e => e) (fun b ps e => ⟨#[], by rw [e]; simp⟩) (fun m hm => ?_) (fun b u e => ?_) I.bare
  · have e : b = it := by simpa using hb
    subst e
    exact ⟨h1, hL, h2, h3⟩
  · obtain ⟨o, es, ep, ho, r⟩ := hm
    exact ⟨o, es, ep, k _ o (Ne.symm hL) ho, r⟩
  · refine (I.hok b u e).stay (fun c v hc q => k c v ?_ q) (fun _ q => q) fun _ _ q => q
    rcases hc with z | z
    · rw [z]; exact nit b u e
    · exact nit c _ z
theorem Inv.tok (I : Inv X pins σ H s) (t : Nat) : Inv X pins σ H { s with toks := t } := I.un (h' := s.heap) (t' := t) Un.refl I.hok
theorem Inv.kept {t' : Nat} (I : Inv X pins σ H s) (k : ∀ b u, s.heap.get? b = some u → h'.get? b = some u) : Inv X pins σ H { s with heap := h', toks := t' } := I.un (Un.kept k) (I.hok.kept k)
theorem Inv.laid {a : Addr} {o : HO} {t' : Nat} (I : Inv X pins σ H s) (k : ∀ b u, s.heap.get? b = some u → h'.get? b = some u) (hp : s.heap.objs.size ≤ a) (new : ObjOk X.prog X.w (upd H a o) h' a o) :
    Inv X pins σ (upd H a o) { s with heap := h', toks := t' } := I.un (Un.laid k hp (I.hok.fresh hp)) (I.hok.laid k hp new)
theorem Inv.write {x e : Addr} {o : HO} {t' : Nat} (I : Inv X pins σ H s) (mu : Mut (H x)) (he : e = x ∨ H e = some (.own x)) (k : ∀ b u, b ≠ e → s.heap.get? b = some u → h'.get? b = some u) (heo : ∃ u, h'.get? e = some u)
    (new : ObjOk X.prog X.w (upd H x o) h' x o) : Inv X pins σ (upd H x o) { s with heap := h', toks := t' } := I.un (Un.write mu he k heo) (I.hok.write mu he k heo new)
theorem Inv.pins_of {pins' : List (Addr × Obj)} (I : Inv X pins σ H s) (h : ∀ p ∈ pins', s.heap.get? p.1 = some p.2 ∧ H p.1 = none ∧ p.1 ≠ X.env.locals ∧ p.1 ∉ X.fs ∧ ∀ v, p.2.data ≠ .cell v) : Inv X pins' σ H s :=
  ⟨I.ok, I.os, I.bare, I.base, I.loc, I.cell, I.free, I.freeC, fun p hp => (List.mem_append.mp hp).elim (fun z => I.pin p (List.mem_append_left _ z)) (h p), I.hok, I.len⟩
theorem nodup_ix {N : List Str} (hN : N.Nodup) {i j : Nat} {x : Str} (a : N[i]? = some x) (b : N[j]? = some x) : i = j := by
  obtain ⟨h1, e1⟩ := List.getElem?_eq_some_iff.mp a
  obtain ⟨h2, e2⟩ := List.getElem?_eq_some_iff.mp b
  exact (List.getElem_inj hN).mp (e1.trans e2.symm)
theorem store_ok2 {M : Model} {A : Around} {E : Value → Shared → Prop} {i : Nat} {x : Str} {v : V} {u : Value} {Q : Unit → Shared → Prop} (I : Inv X pins σ H s) (hN : X.N.Nodup) (hi : X.N[i]? = some x) (hx : Loc X.env.scope x) (r : RelV v u)
    (h : ∀ s', Inv X pins (σ.set i (some v)) H s' → (∃ a, Heap.SameBut a s.heap s'.heap ∧ (a = X.env.locals ∨ X.env.cells.lookup x = some a)) → Q () s') (hf : X.fn x = true ∨ X.env.scope.names.lookup x = some .local := by first | exact .inl rfl | exact .inr rfl | assumption) : wpAny M A (storeName X.env x u) Q E s := by
  obtain ⟨m, hn, hl⟩ := id I.loc
  have hcls : (X.env.scope.kind == .class || (X.env.scope.kind == .module && X.env.locals != X.env.globals)) = false := by rw [I.ok.kind]; rfl
  have hiσ : i < σ.length := by rw [I.len]; exact (List.getElem?_eq_some_iff.mp hi).1
  have cne := I.cne
  have tracked : ∀ {a : Addr} {h' : Heap}, (∃ o, s.heap.get? a = some o ∧ H a = none) → Heap.SameBut a s.heap h' → HOk X.prog X.w H h' := fun {a h'} ha hs b ob e => by
    obtain ⟨_, _, hfree⟩ := ha
    refine (I.hok b ob e).stay (fun c w' hc q => (hs.2 c ?_).trans q) (fun _ q => q) fun _ _ q => q
    rintro rfl
    rcases hc with rfl | hc
    · rw [hfree] at e; cases e
    · rw [hfree] at hc; cases hc
  rcases hx with hk | hk
  · refine wpAny_storeName_local hk hn (fun h' hn' hs => ?_) hcls
    obtain ⟨oL, _, _, hoL, _⟩ := id hn
    refine h _ ⟨I.ok, I.os, I.bare, ⟨fun b o e n hb hx => ?_, fun b o e n hb hx => ?_, I.base.free, fun b o e hx => ?_, I.base.tups, I.base.frzs, I.base.tbls⟩, ⟨_, hn', fun j y v' e1 e2 e3 => ?_⟩, fun y c e => ?_, I.free, I.freeC, fun p hp => ?_, tracked ⟨oL, hoL, I.free⟩ hs, by simpa using I.len⟩ ⟨_, hs, .inl rfl⟩
    · exact (hs.2 b (Nat.ne_of_lt (Nat.lt_of_lt_of_le (Heap.lt_size e) I.ok.above))).trans (I.base.keep b o e n hb hx)
    · obtain ⟨sl, e1⟩ := I.base.slot b o e n hb hx
      exact ⟨sl, (hs.2 b (Nat.ne_of_lt (Nat.lt_of_lt_of_le (Heap.lt_size e) I.ok.above))).trans e1⟩
    · obtain ⟨o', e1⟩ := I.base.there b o e hx
      exact ⟨o', (hs.2 b (Nat.ne_of_lt (Nat.lt_of_lt_of_le (Heap.lt_size e) I.ok.above))).trans e1⟩
    · by_cases hj : j = i
      · subst hj
        rw [hi] at e1; cases e1
        rw [List.getElem?_set_self hiσ] at e2
        cases e2
        exact ⟨u, r, .inl ⟨hk, by simp⟩⟩
      · rw [List.getElem?_set_ne (Ne.symm hj)] at e2
        obtain ⟨u', r', q⟩ := hl j y v' e1 e2 e3
        refine ⟨u', r', ?_⟩
        rcases q with ⟨k, e⟩ | ⟨k, c, e, z⟩
        · refine .inl ⟨k, ?_⟩
          have : y ≠ x := fun e => hj (nodup_ix hN e1 (e ▸ hi))
          simp [this, e]
        · exact .inr ⟨k, c, e, z.sameBut hs (cne y c e)⟩
    · obtain ⟨w', z⟩ := I.cell y c e
      exact ⟨w', z.sameBut hs (cne y c e)⟩
    · obtain ⟨e, n, ne, nf, d⟩ := I.pin p hp
      exact ⟨(hs.2 p.1 ne).trans e, n, ne, nf, d⟩
  · have hfn : X.fn x = true := by
      rcases hf with z | z
      · exact z
      · rw [z] at hk; cases hk
    obtain ⟨c, hc⟩ := I.ok.has x (.inl hk)
    obtain ⟨w', z⟩ := I.cell x c hc
    refine wpAny_storeName_cell I.ok.kind hk hc z (fun h' hc' hs => ?_)
    obtain ⟨oc, hoc, hocd⟩ := id z
    refine h { s with heap := h' } ⟨I.ok, I.os, I.bare, ⟨fun b o e n hb hx => ?_, fun b o e n hb hx => ?_, I.base.free, fun b o e hx => ?_, I.base.tups, I.base.frzs, I.base.tbls⟩, ⟨m, hn.sameBut hs (Ne.symm (cne x c hc)), fun j y v' e1 e2 e3 => ?_⟩, fun y c' e => ?_, I.free, I.freeC, fun p hp => ?_, tracked ⟨oc, hoc, I.freeC x c hc⟩ hs, by simpa using I.len⟩ ⟨c, hs, .inr hc⟩
    · exact (hs.2 b (Nat.ne_of_lt (Nat.lt_of_lt_of_le (Heap.lt_size e) (I.ok.cab x c hfn hc)))).trans (I.base.keep b o e n hb hx)
    · obtain ⟨sl, e1⟩ := I.base.slot b o e n hb hx
      exact ⟨sl, (hs.2 b (Nat.ne_of_lt (Nat.lt_of_lt_of_le (Heap.lt_size e) (I.ok.cab x c hfn hc)))).trans e1⟩
    · obtain ⟨o', e1⟩ := I.base.there b o e hx
      exact ⟨o', (hs.2 b (Nat.ne_of_lt (Nat.lt_of_lt_of_le (Heap.lt_size e) (I.ok.cab x c hfn hc)))).trans e1⟩
    · by_cases hj : j = i
      · subst hj
        rw [hi] at e1; cases e1
        rw [List.getElem?_set_self hiσ] at e2
        cases e2
        exact ⟨u, r, .inr ⟨.inl hk, c, hc, hc'⟩⟩
      · rw [List.getElem?_set_ne (Ne.symm hj)] at e2
        obtain ⟨u', r', q⟩ := hl j y v' e1 e2 e3
        refine ⟨u', r', ?_⟩
        rcases q with q | ⟨k, c', e, z'⟩
        · exact .inl q
        · refine .inr ⟨k, c', e, z'.sameBut hs ?_⟩
          rintro rfl
          exact hj (nodup_ix hN e1 (I.ok.inj _ _ _ e hc ▸ hi))
    · by_cases hcc : c' = c
      · subst hcc; exact ⟨_, hc'⟩
      · obtain ⟨w2, z2⟩ := I.cell y c' e
        exact ⟨w2, z2.sameBut hs hcc⟩
    · obtain ⟨e, n, ne, nf, d⟩ := I.pin p hp
      refine ⟨(hs.2 p.1 ?_).trans e, n, ne, nf, d⟩
      intro q
      rw [q, hoc] at e
      have q' : oc = p.2 := Option.some.inj e
      exact d w' (by rw [← q']; exact hocd)
theorem store_ok {M : Model} {A : Around} {E : Value → Shared → Prop} {i : Nat} {x : Str} {v : V} {u : Value} {Q : Unit → Shared → Prop} (I : Inv X pins σ H s) (hN : X.N.Nodup) (hi : X.N[i]? = some x) (hx : Loc X.env.scope x) (r : RelV v u)
    (h : ∀ s', Inv X pins (σ.set i (some v)) H s' → Q () s') (hf : X.fn x = true ∨ X.env.scope.names.lookup x = some .local := by first | exact .inl rfl | exact .inr rfl | assumption) : wpAny M A (storeName X.env x u) Q E s :=
  store_ok2 I hN hi hx r (fun s' I' _ => h s' I') hf
theorem Inv.call' {s' : Shared} {ch : List Addr} (I : Inv X pins σ H s) (ho : s'.os = s.os) (u : Un (frs X.stack) ch H H' s.heap s'.heap) (hok : HOk X.prog X.w H' s'.heap) (hg : AllBare s'.gens)
    (hch : ∀ b ∈ ch, (b ∈ X.ex ∨ X.s₀.heap.objs.size ≤ b) ∧ b ≠ X.env.locals ∧ (∀ x c, X.env.cells.lookup x = some c → c ≠ b) ∧ ∀ p ∈ X.pn ++ pins, p.1 ≠ b) : Inv X pins σ H' s' := by
  obtain ⟨h', g', d', t', o'⟩ := s'
  have e : o' = s.os := ho
  subst e
  exact I.call (g' := g') (t' := t') (d' := d') u hok hg hch
end
abbrev XK := Value → Option Addr → Hp → Prop
abbrev St := List (Option V)
abbrev VK := V → Hp → Prop
abbrev TE := St → Hp → VK → Prop
abbrev TT := St → Hp → (Bool → Hp → Prop) → Prop
abbrev TA := St → Hp → (List V → Hp → Prop) → Prop
structure Ends where
  nx : St → Hp → Prop
  rt : VK
  bk : St → Hp → Prop := fun _ _ => False
  ct : St → Hp → Prop := fun _ _ => False
abbrev TS := Ends → St → Hp → Prop
def EP (X : Cx) (pins : List (Addr × Obj)) (σ : St) (Q : VK) (u : Value) (s' : Shared) : Prop := ∃ v H', Inv X pins σ H' s' ∧ RelV v u ∧ Q v H'
def TP (X : Cx) (pins : List (Addr × Obj)) (σ : St) (Q : Bool → Hp → Prop) (b : Bool) (s' : Shared) : Prop := ∃ H', Inv X pins σ H' s' ∧ Q b H'
def AP (X : Cx) (pins : List (Addr × Obj)) (σ : St) (Q : List V → Hp → Prop) (us : List Value) (s' : Shared) : Prop := ∃ vs H', Inv X pins σ H' s' ∧ Vals vs us ∧ Q vs H'
def SP (X : Cx) (pins : List (Addr × Obj)) (D : Ends) (f : Flow) (s' : Shared) : Prop :=
  match f with
  | .next => ∃ σ' H', Inv X pins σ' H' s' ∧ D.nx σ' H'
  | .brk => ∃ σ' H', Inv X pins σ' H' s' ∧ D.bk σ' H'
  | .cont => ∃ σ' H', Inv X pins σ' H' s' ∧ D.ct σ' H'
  | .ret u => ∃ v σ' H', Inv X pins σ' H' s' ∧ RelV v u ∧ D.rt v H'
def PE (X : Cx) (e : Expr) (t : TE) : Prop :=
  ∀ (pins : List (Addr × Obj)) (s : Shared) (σ : St) (H : Hp) (Q : VK), Inv X pins σ H s → t σ H Q → wpAny (model X.prog X.w) X.A (eval e X.env) (EP X pins σ Q) X.xe s
def PT (X : Cx) (e : Expr) (t : TT) : Prop :=
  ∀ (pins : List (Addr × Obj)) (s : Shared) (σ : St) (H : Hp) (Q : Bool → Hp → Prop), Inv X pins σ H s → t σ H Q → wpAny (model X.prog X.w) X.A (isTrue e X.env (eval e X.env)) (TP X pins σ Q) X.xe s
def PW (X : Cx) (e : Expr) (t : TT) : Prop :=
  ∀ (whole : Sem Value) (pins : List (Addr × Obj)) (s : Shared) (σ : St) (H : Hp) (Q : Bool → Hp → Prop), Inv X pins σ H s → t σ H Q → wpAny (model X.prog X.w) X.A (isTrue e X.env whole) (TP X pins σ Q) X.xe s
theorem PW.pt {X : Cx} {e : Expr} {t : TT} (h : PW X e t) : PT X e t := h _
def PA (X : Cx) (es : List Expr) (t : TA) : Prop :=
  ∀ (pos : Pos) (pins : List (Addr × Obj)) (s : Shared) (σ : St) (H : Hp) (Q : List V → Hp → Prop), Inv X pins σ H s → t σ H Q → wpAny (model X.prog X.w) X.A (spliced (backTo pos (starEach es X.env))) (AP X pins σ Q) X.xe s
def PS (X : Cx) (st : Stmt) (t : TS) : Prop :=
  ∀ (pins : List (Addr × Obj)) (s : Shared) (σ : St) (H : Hp) (D : Ends), Inv X pins σ H s → t D σ H → wpAny (model X.prog X.w) X.A (exec st X.env) (SP X pins D) X.xe s
def PSs (X : Cx) (st : List Stmt) (t : TS) : Prop :=
  ∀ (pins : List (Addr × Obj)) (s : Shared) (σ : St) (H : Hp) (D : Ends), Inv X pins σ H s → t D σ H → wpAny (model X.prog X.w) X.A (execs st X.env) (SP X pins D) X.xe s
theorem thn {α : Type} {t : Sem α} {Q Q' : α → Shared → Prop} {M : Model} {A : Around} {E : Value → Shared → Prop} {s : Shared} (h : wpAny M A t Q E s) (hQ : ∀ a s, Q a s → Q' a s) : wpAny M A t Q' E s := wpAny_mono h hQ fun _ _ x => x
end L2
namespace L2
open PySem PySem.Spec PyProof.Rows
section
variable {X : Cx}
def tVar (i : Nat) : TE := fun σ H Q => ∃ v, σ[i]? = some (some v) ∧ Q v H
def tC (v : V) : TE := fun _ H Q => Q v H
theorem pe_var {i : Nat} {x : Str} {pos : Pos} (hN : X.N[i]? = some x) (hv : Vis X.env.scope x) (hd : (x == ("__debug__" : Str)) = false := by decide) (hcd : (x == ("__classdict__" : Str)) = false := by decide) : PE X (.Name x pos) (tVar i) := by
  intro pins s σ H Q I h
  obtain ⟨v, e, h⟩ := h
  obtain ⟨m, hn, hl⟩ := I.loc
  obtain ⟨u, r, l⟩ := hl i x v hN e hv
  have fin : EP X pins σ Q u s := ⟨v, H, I, r, h⟩
  rcases l with ⟨hk, hm⟩ | ⟨hk, c, hc, hcell⟩
  · exact wpAny_Name (wpAny_loadName_local I.ok.kind hk hn hm fin) hd
  · rcases hk with hk | hk
    · exact wpAny_Name (wpAny_loadName_cell I.ok.kind hk hc hcell fin) hd
    · exact wpAny_Name (wpAny_loadName_free I.ok.kind hk hc hcell fin hcd) hd
theorem pe_int {i j pos} : PE X (.Constant (.int i) j pos) (tC (.int i)) := fun _ _ _ H _ I h => wpAny_Constant_int ⟨.int i, H, I.tok _, ⟨_, rfl⟩, h⟩
theorem pe_non {j pos} : PE X (.Constant .none j pos) (tC .non) := fun _ _ _ H _ I h => Constant_none ⟨.non, H, I, rfl, h⟩
theorem pe_str {x j pos} : PE X (.Constant (.str x) j pos) (tC (.str x)) := fun _ _ _ H _ I h => Calls.Constant_str ⟨.str x, H, I.tok _, ⟨_, rfl⟩, h⟩
def Gl (X : Cx) (x : Str) : Prop := X.env.kindOf x = some .globalImplicit
theorem ld_glob {E : Value → Shared → Prop} {pins : List (Addr × Obj)} {s : Shared} {σ : St} {H : Hp} {x : Str} {u : Value} {pos : Pos} {Q : Value → Shared → Prop} (I : Inv X pins σ H s) (hg : Gl X x) (hm : X.mg x = some u) (h : Q u s)
    (hd : (x == ("__debug__" : Str)) = false := by decide) : wpAny (model X.prog X.w) X.A (eval (.Name x pos) X.env) Q E s :=
  Calls.Name_function_global I.ok.kind hg (Calls.loadGlobal_global (by rw [I.ok.glob]; exact I.mod.glob.keeps I.bk) hm h) hd
theorem ld_blt {E : Value → Shared → Prop} {pins : List (Addr × Obj)} {s : Shared} {σ : St} {H : Hp} {x : Str} {u : Value} {pos : Pos} {Q : Value → Shared → Prop} (I : Inv X pins σ H s) (hg : Gl X x) (hm : X.mg x = none) (hv : bootBuiltins x = some u) (h : Q u s)
    (hn : x ≠ "__name__" := by decide) (hd : (x == ("__debug__" : Str)) = false := by decide) : wpAny (model X.prog X.w) X.A (eval (.Name x pos) X.env) Q E s := by
  obtain ⟨mb, h1, h2⟩ := I.mod.blt
  exact Calls.Name_function_global I.ok.kind hg (Calls.loadGlobal_builtin (by rw [I.ok.glob]; exact I.mod.glob.keeps I.bk) hm (by rw [I.ok.blt]; exact h1.keeps I.bk) ((h2 x hn).trans hv) h) hd
theorem pe_glob {x : Str} {v : V} {u : Value} {pos : Pos} (hg : Gl X x) (hm : X.mg x = some u) (r : RelV v u) (hd : (x == ("__debug__" : Str)) = false := by decide) : PE X (.Name x pos) (tC v) :=
  fun _ _ _ H _ I h => ld_glob I hg hm ⟨v, H, I, r, h⟩ hd
theorem pe_bltn {x : Str} {v : V} {u : Value} {pos : Pos} (hg : Gl X x) (hm : X.mg x = none) (hv : bootBuiltins x = some u) (r : RelV v u) (hn : x ≠ "__name__" := by decide) (hd : (x == ("__debug__" : Str)) = false := by decide) : PE X (.Name x pos) (tC v) :=
  fun _ _ _ H _ I h => ld_blt I hg hm hv ⟨v, H, I, r, h⟩ hn hd
variable {a b : Expr} {ta tb : TE} {pos : Pos}
def tB (t : TE) : TT := fun σ H Q => t σ H fun x H1 => ∃ c, x = .bl c ∧ Q c H1
theorem pt_val {e : Expr} {t : TE} (h : PE X e t) (he : ∀ whole, isTrue e X.env whole = (do let v ← whole; standAt e.pos; holding [v] (truthy v)) := by intro _; rfl) : PT X e (tB t) := by
  intro pins s σ H Q I hw
  refine isTrue_plain (thn (h pins s σ H _ I hw) fun v s1 ⟨x, H1, I1, r1, q1⟩ => ?_) (he _)
  obtain ⟨d, rfl, q⟩ := q1
  cases r1
  exact wpAny_truthy_bool ⟨H1, I1, q⟩
variable {tA tB' : TT} {rest : List Expr}
def tAnd (t u : TT) : TT := fun σ H Q => t σ H fun c H1 => if c = true then u σ H1 Q else Q false H1
def tOr (t u : TT) : TT := fun σ H Q => t σ H fun c H1 => if c = true then Q true H1 else u σ H1 Q
def tNot (t : TT) : TT := fun σ H Q => t σ H fun c H1 => Q (!c) H1
theorem pw_and1 (ha : PT X a tA) : PW X (.BoolOp .And [a] pos) tA := by
  intro wh pins s σ H Q I h
  refine isTrue_and (thn (ha pins s σ H Q I h) fun c s1 e => ?_)
  cases c with
  | true => exact isTrue_and_nil e
  | false => exact e
theorem pw_or1 (ha : PT X a tA) : PW X (.BoolOp .Or [a] pos) tA := by
  intro wh pins s σ H Q I h
  refine isTrue_or (thn (ha pins s σ H Q I h) fun c s1 e => ?_)
  cases c with
  | false => exact isTrue_or_nil e
  | true => exact e
theorem pw_and (ha : PT X a tA) (hb : PW X (.BoolOp .And (b :: rest) pos) tB') : PW X (.BoolOp .And (a :: b :: rest) pos) (tAnd tA tB') := by
  intro wh pins s σ H Q I h
  refine isTrue_and (thn (ha pins s σ H _ I h) fun c s1 ⟨H1, I1, q1⟩ => ?_)
  cases c with
  | true => exact hb wh pins s1 σ H1 Q I1 q1
  | false => exact ⟨H1, I1, q1⟩
theorem pw_or (ha : PT X a tA) (hb : PW X (.BoolOp .Or (b :: rest) pos) tB') : PW X (.BoolOp .Or (a :: b :: rest) pos) (tOr tA tB') := by
  intro wh pins s σ H Q I h
  refine isTrue_or (thn (ha pins s σ H _ I h) fun c s1 ⟨H1, I1, q1⟩ => ?_)
  cases c with
  | true => exact ⟨H1, I1, q1⟩
  | false => exact hb wh pins s1 σ H1 Q I1 q1
theorem pt_not (ha : PT X a tA) : PT X (.UnaryOp .Not a pos) (tNot tA) := by
  intro pins s σ H Q I h
  exact isTrue_not (ha pins s σ H (fun c H1 => Q (!c) H1) I h)
def tAndV (ta tb : TE) : TE := fun σ H Q => ta σ H fun x H1 => ∃ c, x = .bl c ∧ if c = true then tb σ H1 Q else Q (.bl false) H1
def tOrV (ta tb : TE) : TE := fun σ H Q => ta σ H fun x H1 => ∃ c, x = .bl c ∧ if c = true then Q (.bl true) H1 else tb σ H1 Q
theorem pe_one {op} {t : TE} (h : PE X a t) : PE X (.BoolOp op [a] pos) t := fun pins s σ H Q I hw => BoolOp_one (h pins s σ H Q I hw)
theorem pe_and (ha : PE X a ta) (hb : PE X (.BoolOp .And (b :: rest) pos) tb) : PE X (.BoolOp .And (a :: b :: rest) pos) (tAndV ta tb) := by
  intro pins s σ H Q I h
  refine BoolOp_and (thn (ha pins s σ H _ I h) fun v s1 ⟨x, H1, I1, r1, q1⟩ => ?_)
  obtain ⟨c, rfl, q1⟩ := q1
  cases r1
  refine wpAny_truthy_bool ?_
  cases c with
  | true => exact hb pins s1 σ H1 Q I1 q1
  | false => exact ⟨.bl false, H1, I1, rfl, q1⟩
theorem pe_or (ha : PE X a ta) (hb : PE X (.BoolOp .Or (b :: rest) pos) tb) : PE X (.BoolOp .Or (a :: b :: rest) pos) (tOrV ta tb) := by
  intro pins s σ H Q I h
  refine BoolOp_or (thn (ha pins s σ H _ I h) fun v s1 ⟨x, H1, I1, r1, q1⟩ => ?_)
  obtain ⟨c, rfl, q1⟩ := q1
  cases r1
  refine wpAny_truthy_bool ?_
  cases c with
  | false => exact hb pins s1 σ H1 Q I1 q1
  | true => exact ⟨.bl true, H1, I1, rfl, q1⟩
end
end L2
namespace L2
open PySem PySem.Spec PyProof.Rows
def SqL (K : PySem.W.Frag) (H : Hp) (a : Addr) (xs : List V) : Prop :=
  Rd H a (.lst xs) ∨
    ∃ (o : Obj) (its : Array Value) (n : Nat), K.lookup a = some o ∧ o.cls = .type "list" ∧ o.dict = none ∧ o.data = .seq its n ∧ its.size ≤ sizeLine ∧ Vals xs its.toList
def SqT (K : PySem.W.Frag) (H : Hp) (a : Addr) (xs : List V) : Prop :=
  Rd H a (.tup xs) ∨
    ∃ (o : Obj) (its : Array Value) (n : Nat), K.lookup a = some o ∧ o.cls = .type "tuple" ∧ o.data = .seq its n ∧ its.size ≤ sizeLine ∧ Vals xs its.toList
def absV : Value → Option V
  | .none => some .non
  | .bool b => some (.bl b)
  | .int i _ => some (.int i)
  | .str x _ => some (.str x)
  | .bytes b _ => some (.byt b)
  | .float b _ => some (.flt b)
  | .ref a => some (.ref a)
  | .type n => some (.ty n)
  | _ => none
theorem RelV.abs {x : V} {u : Value} (r : RelV x u) : absV u = some x := by
  cases x with
  | non => cases r; rfl
  | bl _ => cases r; rfl
  | int _ => obtain ⟨t, rfl⟩ := r; rfl
  | str _ => obtain ⟨t, rfl⟩ := r; rfl
  | byt _ => obtain ⟨t, rfl⟩ := r; rfl
  | flt _ => obtain ⟨t, rfl⟩ := r; rfl
  | ref _ => cases r; rfl
  | ty _ => cases r; rfl
theorem RelV.inj {x y : V} {u : Value} (r : RelV x u) (q : RelV y u) : x = y := Option.some.inj (r.abs.symm.trans q.abs)
theorem Vals.inj : ∀ {xs ys : List V} {us : List Value}, Vals xs us → Vals ys us → xs = ys
  | _, _, _, .nil, .nil => rfl
  | _, _, _, .cons r t, .cons r' t' => by rw [r.inj r', Vals.inj t t']
section
variable {X : Cx} {pins : List (Addr × Obj)} {σ : St} {H : Hp} {s : Shared} {a : Addr} {xs ys : List V}
theorem SqL.of {K : PySem.W.Frag} (h : H a = some (.lst xs)) : SqL K H a xs := .inl (.inl h)
theorem SqT.of {K : PySem.W.Frag} (h : H a = some (.tup xs)) : SqT K H a xs := .inl (.inl h)
theorem Inv.list (I : Inv X pins σ H s) (h : SqL X.K H a xs) : ∃ its : List Value, Vals xs its ∧ PlainL s.heap a its.toArray ∧ xs.length ≤ sizeLine := by
  rcases h with h | ⟨o, its, n, hk, hc, hd, hs, hz, r⟩
  · obtain ⟨z, its, n, r, e⟩ := h.ok I.hok
    exact ⟨its, r, ⟨_, n, e, rfl, rfl, rfl⟩, z⟩
  · refine ⟨its.toList, r, ⟨o, n, I.kIn a o hk, hc, hd, by simpa using hs⟩, ?_⟩
    have e := r.length
    simp only [Array.length_toList] at e
    omega
theorem Inv.tuple (I : Inv X pins σ H s) (h : SqT X.K H a xs) : ∃ its : List Value, Vals xs its ∧ IsTup s.heap a its.toArray ∧ xs.length ≤ sizeLine := by
  rcases h with h | ⟨o, its, n, hk, hc, hs, hz, r⟩
  · obtain ⟨z, its, r, p⟩ := h.ok I.hok
    exact ⟨its, r, p, z⟩
  · refine ⟨its.toList, r, ⟨o, I.kIn a o hk, hc, n, by simpa using hs⟩, ?_⟩
    have e := r.length
    simp only [Array.length_toList] at e
    omega
theorem Inv.list_inj (I : Inv X pins σ H s) (h : SqL X.K H a xs) (h' : SqL X.K H a ys) : xs = ys := by
  obtain ⟨its, r, ⟨o, n, e, _, _, d⟩, _⟩ := I.list h
  obtain ⟨its', r', ⟨o', n', e', _, _, d'⟩, _⟩ := I.list h'
  rw [e] at e'; cases e'
  rw [d] at d'
  injection d' with d1 _
  have : its = its' := by simpa using congrArg Array.toList d1
  subst this
  exact r.inj r'
theorem Inv.tuple_inj (I : Inv X pins σ H s) (h : SqT X.K H a xs) (h' : SqT X.K H a ys) : xs = ys := by
  obtain ⟨its, r, ⟨o, e, _, n, d⟩, _⟩ := I.tuple h
  obtain ⟨its', r', ⟨o', e', _, n', d'⟩, _⟩ := I.tuple h'
  rw [e] at e'; cases e'
  rw [d] at d'
  injection d' with d1 _
  have : its = its' := by simpa using congrArg Array.toList d1
  subst this
  exact r.inj r'
end
abbrev Cx.wish (X : Cx) (E : Value → Shared → Prop) : Cx := { X with xe := E }
abbrev Cx.nox (X : Cx) : Cx := X.wish fun _ _ => False
theorem Cx.Ok.wish {X : Cx} (ok : X.Ok) (E : Value → Shared → Prop) : (X.wish E).Ok :=
  ⟨ok.mod, ok.kind, ok.glob, ok.blt, ok.above, ok.inj, ok.has, ok.cab, ok.hd, ok.frames, ok.stk, ok.exf, ok.bs, ok.bsz, ok.noex, ok.exfs, ok.funs, ok.frf⟩
theorem Cx.Ok.unwish {X : Cx} {E : Value → Shared → Prop} (ok : (X.wish E).Ok) : X.Ok :=
  ⟨ok.mod, ok.kind, ok.glob, ok.blt, ok.above, ok.inj, ok.has, ok.cab, ok.hd, ok.frames, ok.stk, ok.exf, ok.bs, ok.bsz, ok.noex, ok.exfs, ok.funs, ok.frf⟩
section
variable {X : Cx} {pins : List (Addr × Obj)} {σ : St} {H : Hp} {s : Shared} {E : Value → Shared → Prop}
theorem Inv.wish (I : Inv X pins σ H s) (E : Value → Shared → Prop) : Inv (X.wish E) pins σ H s := ⟨I.ok.wish E, I.os, I.bare, I.base, I.loc, I.cell, I.free, I.freeC, I.pin, I.hok, I.len⟩
theorem Inv.unwish (I : Inv (X.wish E) pins σ H s) : Inv X pins σ H s := ⟨I.ok.unwish, I.os, I.bare, I.base, I.loc, I.cell, I.free, I.freeC, I.pin, I.hok, I.len⟩
theorem SP.unwish {D : Ends} {f : Flow} {s' : Shared} (h : SP (X.wish E) pins D f s') : SP X pins D f s' := by
  cases f with
  | next => obtain ⟨σ', H', I, q⟩ := h; exact ⟨σ', H', I.unwish, q⟩
  | brk => obtain ⟨σ', H', I, q⟩ := h; exact ⟨σ', H', I.unwish, q⟩
  | cont => obtain ⟨σ', H', I, q⟩ := h; exact ⟨σ', H', I.unwish, q⟩
  | ret u => obtain ⟨v, σ', H', I, r, q⟩ := h; exact ⟨v, σ', H', I.unwish, r, q⟩
theorem PE.nox {e : Expr} {t : TE} (h : PE X.nox e t) : PE X e t := fun pins s σ H Q I hw =>
  wpAny_mono (h pins s σ H Q (I.wish _) hw) (fun _ _ ⟨v, H', I', r, q⟩ => ⟨v, H', I'.unwish, r, q⟩) fun _ _ z => False.elim z
theorem PT.nox {e : Expr} {t : TT} (h : PT X.nox e t) : PT X e t := fun pins s σ H Q I hw =>
  wpAny_mono (h pins s σ H Q (I.wish _) hw) (fun _ _ ⟨H', I', q⟩ => ⟨H', I'.unwish, q⟩) fun _ _ z => False.elim z
theorem PSs.nox {st : List Stmt} {t : TS} (h : PSs X.nox st t) : PSs X st t := fun pins s σ H D I hw =>
  wpAny_mono (h pins s σ H D (I.wish _) hw) (fun _ _ q => q.unwish) fun _ _ z => False.elim z
end
section
variable {X : Cx} {st : Stmt} {rest : List Stmt} {t u : TS} {e : Expr} {te : TE} {pos : Pos}
def tNext : TS := fun D σ H => D.nx σ H
def tSeq (t u : TS) : TS := fun D σ H => t { D with nx := u D } σ H
theorem pss_nil : PSs X [] tNext := fun _ _ σ H _ I h => wpAny_execs_nil ⟨σ, H, I, h⟩
theorem pss_cons (h1 : PS X st t) (h2 : PSs X rest u) : PSs X (st :: rest) (tSeq t u) := by
  intro pins s σ H D I h
  refine wpAny_execs_cons (thn (h1 pins s σ H { D with nx := u D } I h) fun f s1 q => ?_)
  cases f with
  | next =>
    obtain ⟨σ', H', I', q⟩ := q
    exact h2 pins s1 σ' H' D I' q
  | ret v => exact q
  | brk => exact q
  | cont => exact q
theorem pss_one (h1 : PS X st t) : PSs X [st] t := by
  intro pins s σ H D I h
  refine wpAny_execs_cons (thn (h1 pins s σ H D I h) fun f s1 q => ?_)
  cases f with
  | next => exact wpAny_execs_nil q
  | ret v => exact q
  | brk => exact q
  | cont => exact q
theorem Inv.quiet {pins : List (Addr × Obj)} {σ : St} {H : Hp} {s : Shared} (I : Inv X pins σ H s) : interactive X.env = false := by simp [interactive, I.ok.kind]
def tDrop (te : TE) : TS := fun D σ H => te σ H fun _ H1 => D.nx σ H1
theorem ps_expr (he : PE X e te) (hs : swapsWith e none pos.line X.env = pure false := by rfl) : PS X (.Expr e pos) (tDrop te) := by
  intro pins s σ H D I h
  exact wpAny_Expr_any (thn (he pins s σ H _ I h) fun v s1 ⟨x, H1, I1, r1, q1⟩ => ⟨σ, H1, I1, q1⟩) I.quiet hs
def tRet (te : TE) : TS := fun D σ H => te σ H D.rt
theorem ps_ret (he : PE X e te) : PS X (.Return (some e) pos) (tRet te) := by
  intro pins s σ H D I h
  exact wpAny_Return_some (thn (he pins s σ H _ I h) fun v s1 ⟨x, H1, I1, r1, q1⟩ => ⟨x, σ, H1, I1, r1, q1⟩)
def tIfS (c : TT) (t u : TS) : TS := fun D σ H => c σ H fun b H1 => if b = true then t D σ H1 else u D σ H1
theorem ps_if {c : Expr} {a b : List Stmt} {tc : TT} (hc : PT X c tc) (ha : PSs X a t) (hb : PSs X b u) : PS X (.If c a b pos) (tIfS tc t u) := by
  intro pins s σ H D I h
  refine wpAny_If (thn (hc pins s σ H _ I h) fun d s1 ⟨H1, I1, q1⟩ => ?_)
  cases d with
  | true => exact ha pins s1 σ H1 D I1 q1
  | false => exact hb pins s1 σ H1 D I1 q1
def tNever : TS := fun _ _ _ => False
theorem pss_never {sts : List Stmt} : PSs X sts tNever := fun _ _ _ _ _ _ h => h.elim
end
abbrev TG := V → St → Hp → (St → Hp → Prop) → Prop
abbrev TGs := List V → St → Hp → (St → Hp → Prop) → Prop
def PG (X : Cx) (target : Expr) (t : TG) : Prop :=
  ∀ (pins : List (Addr × Obj)) (s : Shared) (σ : St) (H : Hp) (v : V) (u : Value) (Q : St → Hp → Prop), Inv X pins σ H s → RelV v u → t v σ H Q →
    wpAny (model X.prog X.w) X.A (assign target X.env u) (fun _ s' => ∃ σ' H', Inv X pins σ' H' s' ∧ Q σ' H') X.xe s
def PGs (X : Cx) (ts : List Expr) (t : TGs) : Prop :=
  ∀ (pins : List (Addr × Obj)) (s : Shared) (σ : St) (H : Hp) (vs : List V) (us : List Value) (Q : St → Hp → Prop), Inv X pins σ H s → Vals vs us → t vs σ H Q →
    wpAny (model X.prog X.w) X.A (assignInOrder ((assignEach ts X.env).map (·.2)) us) (fun _ s' => ∃ σ' H', Inv X pins σ' H' s' ∧ Q σ' H') X.xe s
abbrev TSet := V → V → V → Hp → (Hp → Prop) → Prop
def PSet (X : Cx) (t : TSet) : Prop :=
  ∀ (pins : List (Addr × Obj)) (s : Shared) (σ : St) (H : Hp) (o i v : V) (ov iv u : Value) (Q : Hp → Prop), Inv X pins σ H s → RelV o ov → RelV i iv → RelV v u → t o i v H Q →
    wpAny (model X.prog X.w) X.A (setItem ov iv u) (fun _ s' => ∃ H', Inv X pins σ H' s' ∧ Q H') X.xe s
section
variable {X : Cx} {pos : Pos}
def gName (i : Nat) : TG := fun v σ H Q => Q (σ.set i (some v)) H
theorem pg_name {i : Nat} {x : Str} (hN : X.N.Nodup) (hi : X.N[i]? = some x) (hx : Loc X.env.scope x) (hf : X.fn x = true ∨ X.env.scope.names.lookup x = some .local := by first | exact .inl rfl | exact .inr rfl | assumption) : PG X (.Name x pos) (gName i) := by
  intro pins s σ H v u Q I r h
  exact wpAny_assign_Name (store_ok I hN hi hx r (fun s' I' => ⟨_, H, I', h⟩) hf)
def gNil : TGs := fun vs σ H Q => vs = [] ∧ Q σ H
def gCons (t : TG) (u : TGs) : TGs := fun vs σ H Q => ∃ v r, vs = v :: r ∧ t v σ H fun σ' H' => u r σ' H' Q
theorem pgs_nil : PGs X [] gNil := by
  intro pins s σ H vs us Q I r h
  obtain ⟨e, h⟩ := h
  subst e
  cases r
  exact assignInOrder_nil ⟨σ, H, I, h⟩
theorem pgs_cons {e : Expr} {es : List Expr} {t : TG} {u : TGs} (h1 : PG X e t) (h2 : PGs X es u)
    (hs : (assignEach (e :: es) X.env).map (·.2) = assign e X.env :: (assignEach es X.env).map (·.2) := by rfl) : PGs X (e :: es) (gCons t u) := by
  intro pins s σ H vs us Q I r h
  obtain ⟨v, vr, e1, h⟩ := h
  subst e1
  cases r with
  | cons r rr =>
    rw [hs]
    refine assignInOrder_cons (thn (h1 pins s σ H _ _ _ I r h) fun _ s1 ⟨σ1, H1, I1, q1⟩ => ?_)
    exact h2 pins s1 σ1 H1 _ _ Q I1 rr q1
def gTup (K : PySem.W.Frag) (n : Nat) (t : TGs) : TG := fun v σ H Q => ∃ a xs, v = .ref a ∧ SqT K H a xs ∧ xs.length = n ∧ t xs σ H Q
theorem pg_tup {es : List Expr} {k : Nat} {t : TGs} {n : Nat} (hc : X.calm = true) (h : PGs X es t)
    (hn : (assignEach es X.env).length = n := by rfl) (hst : (assignEach es X.env).findIdx? (·.1) = none := by rfl) : PG X (.Tuple es k pos) (gTup X.K n t) := by
  intro pins s σ H v u Q I r hw
  obtain ⟨a, xs, e1, hq, hl, hw⟩ := hw
  subst e1
  cases r
  obtain ⟨its, rv, ht, hz⟩ := I.tuple hq
  refine assign_Tuple_tuple (I.ok.hd hc) ht (by simp [hn, ← hl, rv.length]) hst fun h' hx => ?_
  have I1 : Inv X pins σ H { s with heap := h' } := I.kept (t' := s.toks) fun b o e => hx b o (Nat.ne_of_lt (Heap.lt_size e)) e
  exact h pins _ σ H xs _ Q I1 (by simpa using rv) hw
def gSub (to ti : TE) (t : TSet) : TG := fun v σ H Q => to σ H fun o H1 => ti σ H1 fun i H2 => t o i v H2 fun H3 => Q σ H3
theorem pg_sub {o i : Expr} {to ti : TE} {t : TSet} (ho : PE X o to) (hi : PE X i ti) (hs : PSet X t)
    (ha : ∀ v, assign (.Subscript o i pos) X.env v = (do
      let ov ← holding [v] (eval o X.env)
      let iv ← holding [v, ov] (eval i X.env)
      standAt pos
      holding [v, ov, iv] (setItem ov iv v)
      release [v, ov, iv] []) := by intro _; rfl) : PG X (.Subscript o i pos) (gSub to ti t) := by
  intro pins s σ H v u Q I r h
  rw [ha]
  refine wpAny_bind (wpAny_holding (thn (ho pins s σ H _ I h) fun ov s1 ⟨x, H1, I1, r1, q1⟩ => ?_))
  refine wpAny_bind (wpAny_holding (thn (hi pins s1 σ H1 _ I1 q1) fun iv s2 ⟨y, H2, I2, r2, q2⟩ => ?_))
  refine wpAny_bind (wpAny_standAt (wpAny_bind (wpAny_holding (thn (hs pins s2 σ H2 x y v ov iv u _ I2 r1 r2 r q2) fun _ s3 ⟨H3, I3, q3⟩ => ?_))))
  exact wpAny_release ⟨σ, H3, I3, q3⟩
def tAsg (te : TE) (g : TG) : TS := fun D σ H => te σ H fun x H1 => g x σ H1 D.nx
theorem ps_asg {tg e : Expr} {te : TE} {g : TG} (he : PE X e te) (hg : PG X tg g) (hs : swapsWithSole [tg] e pos.line X.env = pure false := by rfl) (hw : swappedStores [tg] e X.env = pure none := by rfl)
    (h1 : (assignEach [tg] X.env).map (·.2) = [assign tg X.env] := by rfl) : PS X (.Assign [tg] e pos) (tAsg te g) := by
  intro pins s σ H D I h
  refine wpAny_Assign_stores (thn (he pins s σ H _ I h) fun v s1 ⟨x, H1, I1, r1, q1⟩ => ?_) hs hw
  rw [h1]
  exact thn (hg pins s1 σ H1 x v _ I1 r1 q1) fun _ s2 q => q
theorem ps_set {i : Nat} {x : Str} {e : Expr} {te : TE} {pos' : Pos} (hN : X.N.Nodup) (hi : X.N[i]? = some x) (hx : Loc X.env.scope x) (he : PE X e te) (hs : swapsWith e (some (.Name x pos')) pos.line X.env = pure false := by rfl) (hf : X.fn x = true ∨ X.env.scope.names.lookup x = some .local := by first | exact .inl rfl | exact .inr rfl | assumption) :
    PS X (.Assign [.Name x pos'] e pos) (tAsg te (gName i)) := by
  intro pins s σ H D I h
  refine wpAny_Assign_Name (thn (he pins s σ H _ I h) fun v s1 ⟨y, H1, I1, r1, q1⟩ => ?_) hs
  exact store_ok I1 hN hi hx r1 (fun s2 I2 => ⟨_, H1, I2, q1⟩) hf
end
section
variable {X : Cx} {pos : Pos}
end
structure It where
  go : Nat → Hp → Prop
  yld : Nat → Hp → V → Hp → Prop
  stop : Nat → Hp → Prop
def FpOk (X : Cx) (pins : List (Addr × Obj)) (H : Hp) (b : Addr) : Prop :=
  H b = none ∧ b ≠ X.env.locals ∧ b ∉ X.fs ∧ (b ∈ X.ex ∨ X.s₀.heap.objs.size ≤ b) ∧ (∀ x c, X.env.cells.lookup x = some c → c ≠ b) ∧ ∀ p ∈ X.pn ++ pins, p.1 ≠ b
theorem Inv.fpOk {X : Cx} {pins : List (Addr × Obj)} {σ : St} {H H' : Hp} {s : Shared} {b : Addr} (I : Inv X pins σ H s) (hb : s.heap.objs.size ≤ b) (hn : H' b = none) : FpOk X pins H' b := by
  refine ⟨hn, Nat.ne_of_gt (Nat.lt_of_lt_of_le I.lt hb), I.nofs hb, .inr (Nat.le_trans I.sz hb), fun x c e z => ?_, fun p hp z => ?_⟩
  · obtain ⟨v, q⟩ := I.cell x c e
    exact absurd (Nat.lt_of_lt_of_le q.lt (by rw [z]; exact hb)) (Nat.lt_irrefl _)
  · exact absurd (Nat.lt_of_lt_of_le (Heap.lt_size (I.pin p hp).1) (by rw [z]; exact hb)) (Nat.lt_irrefl _)
structure Turn (P : Program) (w : World) (K : PySem.W.Frag) (tg : Expr) (J : It) (fp : List Addr) (it : Addr) (tn : Nat → Heap → Prop) : Prop where
  mem : it ∈ fp
  obj : ∀ i h, tn i h → ∀ b ∈ fp, ∃ o, h.get? b = some o ∧ ∀ v, o.data ≠ .cell v
  keep : ∀ i h h', tn i h → (∀ b ∈ fp, ∀ o, h.get? b = some o → h'.get? b = some o) → tn i h'
  item : ∀ (X : Cx), X.prog = P → X.w = w → X.K = K → X.calm = true → ∀ (i : Nat) (pins : List (Addr × Obj)) (s : Shared) (σ : St) (H : Hp) (E : Value → Shared → Prop), Inv X pins σ H s → (∀ b ∈ fp, FpOk X pins H b) → tn i s.heap → J.go i H →
    wpAny (model P w) X.A (pyNext (.ref it)) (fun r s1 => ∃ u, r = some u ∧
      wpAny (model P w) X.A (letOwnedTupleGo tg (.ref it) u) (fun _ s2 => ∃ x H', Inv X pins σ H' s2 ∧ RelV x u ∧ J.yld i H x H' ∧ tn (i + 1) s2.heap ∧ ∀ b ∈ fp, H' b = none) E s1) E s
  done : ∀ (X : Cx), X.prog = P → X.w = w → X.K = K → X.calm = true → ∀ (i : Nat) (pins : List (Addr × Obj)) (s : Shared) (σ : St) (H : Hp) (E : Value → Shared → Prop), Inv X pins σ H s → (∀ b ∈ fp, FpOk X pins H b) → tn i s.heap → J.stop i H →
    wpAny (model P w) X.A (pyNext (.ref it)) (fun r s1 => r = none ∧ Inv X pins σ H s1) E s
  self : ∀ (A : Around) (i : Nat) (s : Shared) (Q : Value → Shared → Prop) (E : Value → Shared → Prop), tn i s.heap → Q (.ref it) s → wpAny (model P w) A (pyIter (.ref it)) Q E s
abbrev TI := St → Hp → (It → Hp → Prop) → Prop
def PIE (X : Cx) (pins : List (Addr × Obj)) (σ : St) (tg : Expr) (R : It → Hp → Prop) (itv : Value) (s2 : Shared) : Prop :=
  ∃ (it : Addr) (fp : List Addr) (tn : Nat → Heap → Prop) (J : It) (H' : Hp), itv = .ref it ∧ Inv X pins σ H' s2 ∧ Turn X.prog X.w X.K tg J fp it tn ∧ tn 0 s2.heap ∧ (∀ b ∈ fp, FpOk X pins H' b) ∧ R J H'
def PI (X : Cx) (tg iter : Expr) (wi : TI) : Prop :=
  ∀ (pins : List (Addr × Obj)) (s : Shared) (σ : St) (H : Hp) (R : It → Hp → Prop), Inv X pins σ H s → wi σ H R →
    wpAny (model X.prog X.w) X.A (eval iter X.env) (fun v s1 => wpAny (model X.prog X.w) X.A (pyIter v) (PIE X pins σ tg R) X.xe s1) X.xe s
theorem go_of {M : Model} {A : Around} {E : Value → Shared → Prop} {s : Shared} {tg : Expr} {it : Addr} {u : Value} {o : Obj} {n : String} {vs : Array Value} {Q : Unit → Shared → Prop} (ho : s.heap.get? it = some o) (hc : o.cls = .type n) (hd : o.data = .fields vs)
    (hn : ["enumerate", "zip", "dict_itemiterator", "dict_reverseitemiterator", "odict_iterator", "itertools.zip_longest", "itertools.pairwise"].contains n = false) (hQ : Q () s) : wpAny M A (letOwnedTupleGo tg (.ref it) u) Q E s := by
  unfold letOwnedTupleGo
  cases tg <;> first
    | exact wpAny_pure hQ
    | (cases u <;> first
        | exact wpAny_pure hQ
        | (refine wpAny_bind (wpAny_load ho ?_)
           rw [hc, hd]
           show wpAny M A (if (["enumerate", "zip", "dict_itemiterator", "dict_reverseitemiterator", "odict_iterator", "itertools.zip_longest", "itertools.pairwise"].contains n && vs[0]? == some (rawInt _)) = true then _ else _) Q E s
           rw [if_neg (by intro h; rw [hn, Bool.false_and] at h; cases h)]
           exact wpAny_pure hQ))
def Itl (K : PySem.W.Frag) (a : Addr) : It :=
  ⟨fun i H => ∃ xs x, SqL K H a xs ∧ xs[i]? = some x, fun i H x H' => H' = H ∧ ∀ xs, SqL K H a xs → xs[i]? = some x, fun i H => ∃ xs, SqL K H a xs ∧ xs.length ≤ i⟩
def Itr (lo : Int) (n : Nat) : It := ⟨fun i _ => i < n, fun i H x H' => H' = H ∧ x = .int (lo + i), fun i _ => n ≤ i⟩
theorem turn_list {P : Program} {w : World} {K : PySem.W.Frag} {tg : Expr} (a it : Addr) : Turn P w K tg (Itl K a) [it] it (fun i h => h.IsListIter it a i) where
  mem := by simp
  obj := fun i h st b hb => by
    have e : b = it := by simpa using hb
    subst e
    obtain ⟨o, e, c, d⟩ := st
    exact ⟨o, e, fun v z => by rw [d] at z; cases z⟩
  keep := fun i h h' st k => st.at fun o e => k it (by simp) o e
  item := by
    intro X hP hw hK hc i pins s σ H E I hf st hg
    subst hP hw hK
    obtain ⟨xs, x, hq, hx⟩ := hg
    obtain ⟨its, rv, p, hz⟩ := I.list hq
    obtain ⟨u, hu, ru⟩ := rv.get hx
    obtain ⟨f0, f1, f2, f3, f4, f5⟩ := hf it (by simp)
    refine wpAny_pyNext_list_item st p.isList (x := u) (by simpa using hu) fun h' st' sb => ?_
    have I1 : Inv X pins σ H { s with heap := h' } := I.turned (t' := s.toks) (fun b o hb e => (sb.2 b hb).trans e) f0 f1 f3 f4 f5
    obtain ⟨o, e, c, d⟩ := id st'
    exact ⟨u, rfl, go_of (s := { s with heap := h' }) e c d (by decide) ⟨x, H, I1, ru, ⟨rfl, fun ys hy => by rw [I.list_inj hy hq]; exact hx⟩, st', fun b hb => (hf b hb).1⟩⟩
  done := by
    intro X hP hw hK hc i pins s σ H E I hf st hg
    subst hP hw hK
    obtain ⟨xs, hq, hx⟩ := hg
    obtain ⟨its, rv, p, hz⟩ := I.list hq
    obtain ⟨f0, f1, f2, f3, f4, f5⟩ := hf it (by simp)
    have hl := rv.length
    exact wpAny_pyNext_list_end (I.ok.hd hc) st p.isList (by simp; omega) fun h' eb => ⟨rfl, I.turned (t' := s.toks) (fun b o hb e => eb b o hb e) f0 f1 f3 f4 f5⟩
  self := fun _ _ _ _ _ st h => wpAny_pyIter_listiter st h
theorem turn_range {P : Program} {w : World} {K : PySem.W.Frag} {tg : Expr} (it : Addr) (lo : Int) (n : Nat) : Turn P w K tg (Itr lo n) [it] it (fun i h => IsRangeIter h it (lo + (i : Nat) * 1) ((n : Int) - (i : Nat)) 1) where
  mem := by simp
  obj := fun i h st b hb => by
    have e : b = it := by simpa using hb
    subst e
    exact ⟨_, st, fun v z => by
      have z' : Data.fields _ = Data.cell v := z
      cases z'⟩
  keep := fun i h h' st k => k it (by simp) _ st
  item := by
    intro X hP hw hK hc i pins s σ H E I hf st hg
    subst hP hw hK
    obtain ⟨f0, f1, f2, f3, f4, f5⟩ := hf it (by simp)
    have W := Walks.range (prog := X.prog) (w := X.w) (I.ok.hd hc) it lo 1 n
    refine W.item i s _ _ hg st fun v h' tk hv st' kk => ?_
    obtain ⟨t, rfl⟩ := hv
    have I1 : Inv X pins σ H { s with heap := h', toks := tk } := I.turned (fun b o hb e => kk b o (by simpa using hb) e) f0 f1 f3 f4 f5
    refine ⟨_, rfl, go_of (s := { s with heap := h', toks := tk }) (n := "range_iterator") st' rfl rfl (by decide) ⟨.int (lo + i), H, I1, ⟨t, ?_⟩, ⟨rfl, rfl⟩, st', fun b hb => (hf b hb).1⟩⟩
    rw [Int.mul_one]
  done := by
    intro X hP hw hK hc i pins s σ H E I hf st hg
    subst hP hw hK
    obtain ⟨f0, f1, f2, f3, f4, f5⟩ := hf it (by simp)
    exact wpAny_pyNext_range_end (I.ok.hd hc) st (by have : n ≤ i := hg; omega) fun h' eb => ⟨rfl, I.turned (t' := s.toks) (fun b o hb e => eb b o hb e) f0 f1 f3 f4 f5⟩
  self := fun _ _ _ _ _ st h => wpAny_pyIter_rangeiter st h
end L2
namespace L2
open PySem PySem.Spec PyProof.Rows
section
variable {X : Cx} {tg : Expr}
def iList (K : PySem.W.Frag) (tl : TE) : TI := fun σ H R => tl σ H fun x H1 => ∃ a, x = .ref a ∧ (∃ xs, SqL K H1 a xs) ∧ R (Itl K a) H1
theorem pi_list {l : Expr} {tl : TE} (hl : PE X l tl) : PI X tg l (iList X.K tl) := by
  intro pins s σ H R I h
  refine thn (hl pins s σ H _ I h) fun v s1 ⟨x, H1, I1, r1, q1⟩ => ?_
  obtain ⟨a, e, ⟨xs, hq⟩, q⟩ := q1
  subst e
  cases r1
  obtain ⟨its, rv, p, hz⟩ := I1.list hq
  refine wpAny_pyIter_list p.isList ?_
  refine ⟨s1.heap.objs.size, [s1.heap.objs.size], _, _, H1, rfl, I1.kept (t' := s1.toks) fun b o e => Heap.get?_push_of_some _ e, turn_list a _, ⟨_, Heap.get?_push_size _ rfl, rfl, rfl⟩, fun b hb => ?_, q⟩
  have e : b = s1.heap.objs.size := by simpa using hb
  subst e
  exact I1.fpOk (Nat.le_refl _) (I1.hok.fresh (Nat.le_refl _))
theorem range_it {pins : List (Addr × Obj)} {σ : St} {H : Hp} {s : Shared} {R : It → Hp → Prop} {E : Value → Shared → Prop} {lo hi : Int} {t u v : Tok} {tk : Nat} (I : Inv X pins σ H s) (h1 : -(2 ^ 62) ≤ lo) (h2 : lo < 2 ^ 62) (h3 : -(2 ^ 62) ≤ hi) (h4 : hi < 2 ^ 62)
    (q : R (Itr lo (hi - lo).toNat) H) : wpAny (model X.prog X.w) X.A (pyIter (.ref s.heap.objs.size)) (PIE X pins σ tg R) E { s with heap := s.heap.push { cls := .type "range", data := .fields #[.int lo t, .int hi u, .int 1 v] }, toks := tk } := by
  refine wpAny_pyIter_range (IsRange.new ..) (small_one h1 h2 h3 h4) ?_
  have I1 : Inv X pins σ H { s with heap := s.heap.push { cls := .type "range", data := .fields #[.int lo t, .int hi u, .int 1 v] }, toks := tk } := I.kept fun b o e => Heap.get?_push_of_some _ e
  refine ⟨(s.heap.push { cls := .type "range", data := .fields #[.int lo t, .int hi u, .int 1 v] }).objs.size, [(s.heap.push { cls := .type "range", data := .fields #[.int lo t, .int hi u, .int 1 v] }).objs.size], _, _, H, rfl,
    I1.kept (t' := tk) fun b o e => Heap.get?_push_of_some _ e, turn_range _ lo (hi - lo).toNat, ?_, fun b hb => ?_, q⟩
  · have e1 : lo + ((0 : Nat) : Int) * 1 = lo := by simp
    have e2 : (((hi - lo).toNat : Nat) : Int) - ((0 : Nat) : Int) = Builtin.Range.rangeSize lo hi 1 := by rw [rangeSize_one]; split <;> omega
    show IsRangeIter _ _ (lo + ((0 : Nat) : Int) * 1) ((((hi - lo).toNat : Nat) : Int) - ((0 : Nat) : Int)) 1
    rw [e1, e2]
    exact Heap.get?_push_size _ rfl
  · have e : b = (s.heap.push { cls := .type "range", data := .fields #[.int lo t, .int hi u, .int 1 v] }).objs.size := by simpa using hb
    subst e
    exact I1.fpOk (Nat.le_refl _) (I1.hok.fresh (Nat.le_refl _))
def iRng1 (ta : TA) : TI := fun σ H R => ta σ H fun vs H1 => ∃ j : Int, vs = [.int j] ∧ -(2 ^ 62) ≤ j ∧ j < 2 ^ 62 ∧ R (Itr 0 j.toNat) H1
theorem pi_range1 {a : Expr} {ta : TA} {p pos : Pos} (hg : Gl X "range") (hm : X.mg "range" = none) (ha : PA X [a] ta) (hs : starEach [a] X.env = [(false, eval a X.env)] := by rfl) : PI X tg (.Call (.Name "range" p) [a] [] pos) (iRng1 ta) := by
  intro pins s σ H R I h
  refine Call_ (ld_blt I hg hm boot_range (PyProof.Rows.callWith_type1 (thn (ha pos pins s σ H _ I h) fun us s1 ⟨vs, H1, I1, r1, q1⟩ => ?_) hs rfl))
  obtain ⟨j, e, q1, q2, q⟩ := q1
  subst e
  cases r1 with
  | cons r rr =>
    cases rr
    obtain ⟨t, rfl⟩ := r
    exact call_range_1 (range_it I1 (by omega) (by omega) q1 q2 (by simpa using q))
def tFor (wi : TI) (g : TG) (tb : TS) : TS := fun D σ H => wi σ H fun J H1 => ∃ W : Nat → Nat → St → Hp → Prop, (∃ m, W 0 m σ H1) ∧ ∀ i m σ H, W i m σ H →
  (J.stop i H ∧ D.nx σ H) ∨ (J.go i H ∧ ∃ N : St → Hp → Prop, (∀ σ' H', N σ' H' → ∃ m', m' < m ∧ W (i + 1) m' σ' H') ∧ ∀ x H', J.yld i H x H' → g x σ H' fun σ2 H2 => tb { D with nx := N, ct := N, bk := D.nx } σ2 H2)
def pinsAt (fp : List Addr) (h : Heap) : List (Addr × Obj) := fp.filterMap fun b => (h.get? b).map fun o => (b, o)
theorem mem_pinsAt {fp : List Addr} {h : Heap} {b : Addr} {o : Obj} (hb : b ∈ fp) (e : h.get? b = some o) : (b, o) ∈ pinsAt fp h := List.mem_filterMap.mpr ⟨b, hb, by rw [e]; rfl⟩
theorem of_pinsAt {fp : List Addr} {h : Heap} {p : Addr × Obj} (hp : p ∈ pinsAt fp h) : p.1 ∈ fp ∧ h.get? p.1 = some p.2 := by
  obtain ⟨b, hb, e⟩ := List.mem_filterMap.mp hp
  cases q : h.get? b with
  | none => rw [q] at e; cases e
  | some o =>
    rw [q] at e
    have e' : (b, o) = p := Option.some.inj e
    subst e'
    exact ⟨hb, q⟩
theorem Inv.pinned {pins : List (Addr × Obj)} {σ : St} {H : Hp} {s : Shared} {fp : List Addr} (I : Inv X pins σ H s) (hf : ∀ b ∈ fp, FpOk X pins H b) (ho : ∀ b ∈ fp, ∃ o, s.heap.get? b = some o ∧ ∀ v, o.data ≠ .cell v) : Inv X (pins ++ pinsAt fp s.heap) σ H s :=
  I.pins_of fun p hp => (List.mem_append.mp hp).elim (fun z => I.pin p (List.mem_append_right _ z)) fun z => by
    obtain ⟨hb, e⟩ := of_pinsAt z
    obtain ⟨f0, f1, f2, _⟩ := hf p.1 hb
    obtain ⟨o, e', d⟩ := ho p.1 hb
    rw [e] at e'; cases e'
    exact ⟨e, f0, f1, f2, d⟩
theorem Inv.unpinned {pins pl : List (Addr × Obj)} {σ : St} {H : Hp} {s : Shared} (I : Inv X (pins ++ pl) σ H s) : Inv X pins σ H s := I.pins_of fun p hp => I.pin p (List.mem_append_right _ (List.mem_append_left _ hp))
theorem ps_for {iter : Expr} {body : List Stmt} {wi : TI} {g : TG} {tb : TS} {pos : Pos} (hp : PassesOwn (model X.prog X.w) X.A X.env X.xe) (hc : X.calm = true) (hi : PI X tg iter wi) (hg : PG X tg g) (hb : PSs X body tb)
    (hs : ∀ x, foldedSetIterable iter X.env x = pure x := by intro _; rfl) : PS X (.For tg iter body [] pos) (tFor wi g tb) := by
  intro pins s σ H D I h
  refine wpAny_For (thn (hi pins s σ H _ I h) fun v s1 h1 => thn h1 fun itv s2 h2 => ?_) hs
  obtain ⟨it, fp, tn, J, H2, e, I2, T, st2, f2, W, ⟨m0, w0⟩, turn⟩ := h2
  subst e
  have stat : ∀ {H' : Hp}, (∀ b ∈ fp, H' b = none) → ∀ b ∈ fp, FpOk X pins H' b := fun hn b hb => ⟨hn b hb, (f2 b hb).2⟩
  refine codeAny_forLoop_any (fun n s' => ∃ i σ' H', Inv X pins σ' H' s' ∧ tn i s'.heap ∧ (∀ b ∈ fp, H' b = none) ∧ W i n σ' H') ?_ m0 ⟨0, σ, H2, I2, st2, fun b hb => (f2 b hb).1, w0⟩
  rintro n s3 ⟨i, σ3, H3, I3, st3, fr3, w3⟩
  rcases turn i n σ3 H3 w3 with ⟨stop, qn⟩ | ⟨go, N, hN, step⟩
  · refine wpAny_passesOwn hp (thn (T.done X rfl rfl rfl hc i pins s3 σ3 H3 X.xe I3 (stat fr3) st3 stop) fun r s4 ⟨hr, I4⟩ => ?_)
    subst hr
    exact wpAny_execs_nil ⟨σ3, H3, I4, qn⟩
  · refine wpAny_passesOwn hp (thn (T.item X rfl rfl rfl hc i pins s3 σ3 H3 X.xe I3 (stat fr3) st3 go) fun r s4 ⟨u, hr, h4⟩ => ?_)
    subst hr
    refine wpAny_passesOwn hp (thn h4 fun _ s5 ⟨x, H5, I5, r5, y5, st5, fr5⟩ => ?_)
    have I5' := I5.pinned (stat fr5) (T.obj _ _ st5)
    refine wpAny_passesOwn hp (thn (hg _ s5 σ3 H5 x u _ I5' r5 (step x H5 y5)) fun _ s6 ⟨σ6, H6, I6, q6⟩ => ?_)
    refine wpAny_passesOwn hp (thn (hb _ s6 σ6 H6 _ I6 q6) fun f s7 q7 => ?_)
    have again : ∀ {σ7 : St} {H7 : Hp}, Inv X (pins ++ pinsAt fp s5.heap) σ7 H7 s7 → N σ7 H7 → ∃ m, m < n ∧ ∃ i σ' H', Inv X pins σ' H' s7 ∧ tn i s7.heap ∧ (∀ b ∈ fp, H' b = none) ∧ W i m σ' H' := fun {σ7 H7} I7 n7 => by
      obtain ⟨m', hm, w7⟩ := hN σ7 H7 n7
      refine ⟨m', hm, i + 1, σ7, H7, I7.unpinned, T.keep _ _ _ st5 fun b hb o e => (I7.pin (b, o) (List.mem_append_right _ (List.mem_append_right _ (mem_pinsAt hb e)))).1, fun b hb => ?_, w7⟩
      obtain ⟨o, e, d⟩ := T.obj _ _ st5 b hb
      exact (I7.pin (b, o) (List.mem_append_right _ (List.mem_append_right _ (mem_pinsAt hb e)))).2.1
    cases f with
    | next => obtain ⟨σ7, H7, I7, n7⟩ := q7; exact again I7 n7
    | cont => obtain ⟨σ7, H7, I7, n7⟩ := q7; exact again I7 n7
    | brk => obtain ⟨σ7, H7, I7, q7⟩ := q7; exact ⟨σ7, H7, I7.unpinned, q7⟩
    | ret v => obtain ⟨x7, σ7, H7, I7, r7, q7⟩ := q7; exact ⟨x7, σ7, H7, I7.unpinned, r7, q7⟩
end
theorem for_list {K : PySem.W.Frag} {a : Addr} {xs : List V} {g : TG} {tb : TS} {D : Ends} {σ : St} {H : Hp} (Pv : Nat → St → Hp → Prop) (h0 : Pv 0 σ H) (hl : ∀ i σ H, i ≤ xs.length → Pv i σ H → SqL K H a xs)
    (hs : ∀ i x σ H, xs[i]? = some x → Pv i σ H → g x σ H fun σ2 H2 => tb { D with nx := Pv (i + 1), ct := Pv (i + 1), bk := D.nx } σ2 H2) (hd : ∀ σ H, Pv xs.length σ H → D.nx σ H) :
    ∃ W : Nat → Nat → St → Hp → Prop, (∃ m, W 0 m σ H) ∧ ∀ i m σ H, W i m σ H →
      ((Itl K a).stop i H ∧ D.nx σ H) ∨ ((Itl K a).go i H ∧ ∃ N : St → Hp → Prop, (∀ σ' H', N σ' H' → ∃ m', m' < m ∧ W (i + 1) m' σ' H') ∧ ∀ x H', (Itl K a).yld i H x H' → g x σ H' fun σ2 H2 => tb { D with nx := N, ct := N, bk := D.nx } σ2 H2) := by
  refine ⟨fun i m σ H => m = xs.length - i ∧ i ≤ xs.length ∧ Pv i σ H, ⟨xs.length, by simp, Nat.zero_le _, h0⟩, ?_⟩
  rintro i m σ H ⟨rfl, hi, p⟩
  have q := hl i σ H hi p
  by_cases hlt : i < xs.length
  · refine .inr ⟨⟨xs, xs[i], q, by simp [hlt]⟩, Pv (i + 1), fun σ' H' p' => ⟨xs.length - (i + 1), by omega, rfl, hlt, p'⟩, fun x H' y => ?_⟩
    obtain ⟨e, y⟩ := y
    subst e
    exact hs i x σ _ (y xs q) p
  · have e : i = xs.length := by omega
    subst e
    exact .inl ⟨⟨xs, q, Nat.le_refl _⟩, hd σ H p⟩
end L2
namespace L2
open PySem PySem.Spec PyProof.Rows
abbrev R2 := V → V → Hp → VK → Prop
def OpR (X : Cx) (f : Value → Value → Sem Value) (r : R2) : Prop :=
  ∀ (pins : List (Addr × Obj)) (s : Shared) (σ : St) (H : Hp) (x y : V) (v u : Value) (Q : VK), Inv X pins σ H s → RelV x v → RelV y u → r x y H Q →
    wpAny (model X.prog X.w) X.A (f v u) (EP X pins σ Q) X.xe s
def UnR (X : Cx) (f : Value → Sem Value) (r : V → Hp → VK → Prop) : Prop :=
  ∀ (pins : List (Addr × Obj)) (s : Shared) (σ : St) (H : Hp) (x : V) (v : Value) (Q : VK), Inv X pins σ H s → RelV x v → r x H Q →
    wpAny (model X.prog X.w) X.A (f v) (EP X pins σ Q) X.xe s
def CallR (X : Cx) (f : Value) (r : List V → Hp → VK → Prop) : Prop :=
  ∀ (pins : List (Addr × Obj)) (s : Shared) (σ : St) (H : Hp) (xs : List V) (us : List Value) (Q : VK), Inv X pins σ H s → Vals xs us → r xs H Q →
    wpAny (model X.prog X.w) X.A (call f us) (EP X pins σ Q) X.xe s
def tOp (r : R2) (ta tb : TE) : TE := fun σ H Q => ta σ H fun x H1 => tb σ H1 fun y H2 => r x y H2 Q
def tUn (r : V → Hp → VK → Prop) (ta : TE) : TE := fun σ H Q => ta σ H fun x H1 => r x H1 Q
def rI (C : Int → Int → Prop) (g : Int → Int → V) : R2 := fun x y H Q => ∃ i j, x = .int i ∧ y = .int j ∧ C i j ∧ Q (g i j) H
def rI0 (g : Int → Int → V) : R2 := fun x y H Q => ∃ i j, x = .int i ∧ y = .int j ∧ Q (g i j) H
def rU (g : Int → V) : V → Hp → VK → Prop := fun x H Q => ∃ i, x = .int i ∧ Q (g i) H
section
variable {X : Cx} {a b c : Expr} {ta tb tc : TE} {pos : Pos}
theorem binT (ha : PE X a ta) (hb : PE X b tb) {pins : List (Addr × Obj)} {s : Shared} {σ : St} {H : Hp} {R : V → V → Hp → Prop} (I : Inv X pins σ H s)
    (h : ta σ H fun x H1 => tb σ H1 fun y H2 => R x y H2) {Q : Value → Shared → Prop} {f : Value → Value → Sem Value}
    (hf : ∀ v u s2 x y H2, Inv X pins σ H2 s2 → RelV x v → RelV y u → R x y H2 → wpAny (model X.prog X.w) X.A (f v u) Q X.xe s2) :
    wpAny (model X.prog X.w) X.A (eval a X.env) (fun v s₁ => wpAny (model X.prog X.w) X.A (eval b X.env) (fun u s₂ => wpAny (model X.prog X.w) X.A (f v u) Q X.xe s₂) X.xe s₁) X.xe s := by
  refine thn (ha pins s σ H _ I h) fun v s1 ⟨x, H1, I1, r1, q1⟩ => ?_
  refine thn (hb pins s1 σ H1 _ I1 q1) fun u s2 ⟨y, H2, I2, r2, q2⟩ => ?_
  exact hf v u s2 x y H2 I2 r1 r2 q2
theorem pe_op {op : Operator} {r : R2} (ho : OpR X (binaryOp op) r) (ha : PE X a ta) (hb : PE X b tb) : PE X (.BinOp a op b pos) (tOp r ta tb) := by
  intro pins s σ H Q I h
  exact wpAny_BinOp (binT ha hb I h fun v u s2 x y H2 I2 rx ry q => ho pins s2 σ H2 x y v u Q I2 rx ry q)
theorem pe_un {op : UnaryOp} {r : V → Hp → VK → Prop} (ho : UnR X (unaryOp op) r) (ha : PE X a ta) : PE X (.UnaryOp op a pos) (tUn r ta) := by
  intro pins s σ H Q I h
  exact UnaryOp_ (thn (ha pins s σ H _ I h) fun v s1 ⟨x, H1, I1, r1, q1⟩ => ho pins s1 σ H1 x v Q I1 r1 q1)
theorem opI {f : Value → Value → Sem Value} {C : Int → Int → Prop} {g : Int → Int → Int}
    (rule : ∀ (i j : Int) (t u : Tok) (s : Shared) (Q : Value → Shared → Prop) (E : Value → Shared → Prop), C i j → Q (.int (g i j) s.toks) { s with toks := s.toks + 1 } → wpAny (model X.prog X.w) X.A (f (.int i t) (.int j u)) Q E s) :
    OpR X f (rI C fun i j => .int (g i j)) := by
  intro pins s σ H x y v u Q I rx ry h
  obtain ⟨i, j, rfl, rfl, hc, q⟩ := h
  obtain ⟨t, rfl⟩ := rx
  obtain ⟨t', rfl⟩ := ry
  exact rule i j t t' s _ _ hc ⟨.int (g i j), H, I.tok _, ⟨_, rfl⟩, q⟩
theorem opI0 {f : Value → Value → Sem Value} {g : Int → Int → Int}
    (rule : ∀ (i j : Int) (t u : Tok) (s : Shared) (Q : Value → Shared → Prop) (E : Value → Shared → Prop), Q (.int (g i j) s.toks) { s with toks := s.toks + 1 } → wpAny (model X.prog X.w) X.A (f (.int i t) (.int j u)) Q E s) :
    OpR X f (rI0 fun i j => .int (g i j)) := by
  intro pins s σ H x y v u Q I rx ry h
  obtain ⟨i, j, rfl, rfl, q⟩ := h
  obtain ⟨t, rfl⟩ := rx
  obtain ⟨t', rfl⟩ := ry
  exact rule i j t t' s _ _ ⟨.int (g i j), H, I.tok _, ⟨_, rfl⟩, q⟩
theorem opB0 {f : Value → Value → Sem Value} {g : Int → Int → Bool}
    (rule : ∀ (i j : Int) (t u : Tok) (s : Shared) (Q : Value → Shared → Prop) (E : Value → Shared → Prop), Q (.bool (g i j)) s → wpAny (model X.prog X.w) X.A (f (.int i t) (.int j u)) Q E s) :
    OpR X f (rI0 fun i j => .bl (g i j)) := by
  intro pins s σ H x y v u Q I rx ry h
  obtain ⟨i, j, rfl, rfl, q⟩ := h
  obtain ⟨t, rfl⟩ := rx
  obtain ⟨t', rfl⟩ := ry
  exact rule i j t t' s _ _ ⟨.bl (g i j), H, I, rfl, q⟩
def CPow (i j : Int) : Prop := 0 ≤ j ∧ j ≤ 1000000 ∧ i.natAbs < 2 ^ 64
theorem op_add : OpR X (binaryOp .Add) (rI0 fun i j => .int (i + j)) := opI0 fun _ _ _ _ _ _ _ q => add_int q
theorem op_sub : OpR X (binaryOp .Sub) (rI0 fun i j => .int (i - j)) := opI0 fun _ _ _ _ _ _ _ q => sub_int q
theorem op_mod : OpR X (binaryOp .Mod) (rI (fun _ j => 0 < j) fun i j => .int (i % j)) := opI fun i j _ _ _ _ _ hc q => by
  have h1 : (0 : Int) < j := hc
  exact mod_int' (by omega) (by rw [Int.fmod_eq_emod_of_nonneg i (by omega)]; exact q)
theorem op_pow : OpR X (binaryOp .Pow) (rI CPow fun i j => .int (i ^ j.toNat)) := opI fun _ _ _ _ _ _ _ hc q => pow_int_small hc.1 hc.2.1 hc.2.2 q
theorem unI {f : Value → Sem Value} {g : Int → Int}
    (rule : ∀ (i : Int) (t : Tok) (s : Shared) (Q : Value → Shared → Prop) (E : Value → Shared → Prop), Q (.int (g i) s.toks) { s with toks := s.toks + 1 } → wpAny (model X.prog X.w) X.A (f (.int i t)) Q E s) :
    UnR X f (rU fun i => .int (g i)) := by
  intro pins s σ H x v Q I rx h
  obtain ⟨i, rfl, q⟩ := h
  obtain ⟨t, rfl⟩ := rx
  exact rule i t s _ _ ⟨.int (g i), H, I.tok _, ⟨_, rfl⟩, q⟩
theorem un_neg : UnR X (unaryOp .USub) (rU fun i => .int (-i)) := unI fun _ _ _ _ _ q => neg_int q
end
def scal : V → V → Bool
  | .non, .non => true | .non, .int _ => true | .int _, .non => true | .non, .bl _ => true | .bl _, .non => true | .non, .str _ => true | .str _, .non => true
  | .int _, .int _ => true | .bl _, .bl _ => true | .str _, .str _ => true | .byt _, .byt _ => true
  | .int _, .str _ => true | .str _, .int _ => true | .bl _, .str _ => true | .str _, .bl _ => true
  | _, _ => false
def rEq : R2 := fun x y H Q => scal x y = true ∧ Q (.bl (decide (x = y))) H
def rNe : R2 := fun x y H Q => scal x y = true ∧ Q (.bl (!decide (x = y))) H
theorem dec_int {i j : Int} : decide (V.int i = V.int j) = (i == j) := by
  rw [Bool.eq_iff_iff]
  simp
theorem dec_bl {i j : Bool} : decide (V.bl i = V.bl j) = (i == j) := by
  rw [Bool.eq_iff_iff]
  simp
theorem dec_str {i j : Str} : decide (V.str i = V.str j) = (i == j) := by
  rw [Bool.eq_iff_iff]
  simp
theorem dec_byt {i j : Array UInt8} : decide (V.byt i = V.byt j) = (i.toList == j.toList) := by
  rw [Bool.eq_iff_iff]
  cases i
  cases j
  simp
section
variable {X : Cx} {a b c : Expr} {ta tb tc : TE} {pos : Pos}
theorem fin_bl {pins : List (Addr × Obj)} {σ : St} {H : Hp} {s : Shared} {Q : VK} {k k' : Bool} (I : Inv X pins σ H s) (q : Q (.bl k) H) (e : k = k') : EP X pins σ Q (.bool k') s := by
  subst e
  exact ⟨.bl k, H, I, rfl, q⟩
theorem op_eq : OpR X (compareOp .Eq) rEq := by
  intro pins s σ H x y v u Q I rx ry h
  obtain ⟨hs, q⟩ := h
  cases x with
  | non =>
    cases rx
    cases y with
    | non => cases ry; exact PySem.EqNone.eq_none_none (fin_bl I q (by simp))
    | bl j => cases ry; exact PySem.EqNone.eq_none_bool (fin_bl I q (by simp))
    | int j => obtain ⟨t', rfl⟩ := ry; exact PySem.EqNone.eq_none_int (fin_bl I q (by simp))
    | str j => obtain ⟨t', rfl⟩ := ry; exact PySem.EqNone.eq_none_str (fin_bl I q (by simp))
    | _ => exact absurd (show false = true from hs) Bool.false_ne_true
  | bl i =>
    cases rx
    cases y with
    | non => cases ry; exact PySem.EqNone.eq_bool_none (fin_bl I q (by simp))
    | bl j => cases ry; exact eq_bool (fin_bl I q dec_bl)
    | str j => obtain ⟨t', rfl⟩ := ry; exact PySem.EqMixed.eq_bool_str (fin_bl I q (by simp))
    | _ => exact absurd (show false = true from hs) Bool.false_ne_true
  | int i =>
    obtain ⟨t, rfl⟩ := rx
    cases y with
    | non => cases ry; exact PySem.EqNone.eq_int_none (fin_bl I q (by simp))
    | int j => obtain ⟨t', rfl⟩ := ry; exact eq_int (fin_bl I q dec_int)
    | str j => obtain ⟨t', rfl⟩ := ry; exact PySem.EqMixed.eq_int_str (fin_bl I q (by simp))
    | _ => exact absurd (show false = true from hs) Bool.false_ne_true
  | str i =>
    obtain ⟨t, rfl⟩ := rx
    cases y with
    | non => cases ry; exact PySem.EqNone.eq_str_none (fin_bl I q (by simp))
    | bl j => cases ry; exact PySem.EqMixed.eq_str_bool (fin_bl I q (by simp))
    | int j => obtain ⟨t', rfl⟩ := ry; exact PySem.EqMixed.eq_str_int (fin_bl I q (by simp))
    | str j => obtain ⟨t', rfl⟩ := ry; exact eq_str (fin_bl I q dec_str)
    | _ => exact absurd (show false = true from hs) Bool.false_ne_true
  | byt i =>
    obtain ⟨t, rfl⟩ := rx
    cases y with
    | byt j => obtain ⟨t', rfl⟩ := ry; exact PySem.W.eq_bytes (fin_bl I q dec_byt)
    | _ => exact absurd (show false = true from hs) Bool.false_ne_true
  | _ => cases y <;> exact absurd (show false = true from hs) Bool.false_ne_true
theorem op_ne : OpR X (compareOp .NotEq) rNe := by
  intro pins s σ H x y v u Q I rx ry h
  obtain ⟨hs, q⟩ := h
  cases x with
  | non =>
    cases rx
    cases y with
    | non => cases ry; exact PySem.EqNone.ne_none_none (fin_bl I q (by simp))
    | bl j => cases ry; exact PySem.EqNone.ne_none_bool (fin_bl I q (by simp))
    | int j => obtain ⟨t', rfl⟩ := ry; exact PySem.EqNone.ne_none_int (fin_bl I q (by simp))
    | str j => obtain ⟨t', rfl⟩ := ry; exact PySem.EqNone.ne_none_str (fin_bl I q (by simp))
    | _ => exact absurd (show false = true from hs) Bool.false_ne_true
  | bl i =>
    cases rx
    cases y with
    | non => cases ry; exact PySem.EqNone.ne_bool_none (fin_bl I q (by simp))
    | bl j => cases ry; exact ne_bool (fin_bl I q (congrArg not dec_bl))
    | str j => obtain ⟨t', rfl⟩ := ry; exact PySem.EqMixed.ne_bool_str (fin_bl I q (by simp))
    | _ => exact absurd (show false = true from hs) Bool.false_ne_true
  | int i =>
    obtain ⟨t, rfl⟩ := rx
    cases y with
    | non => cases ry; exact PySem.EqNone.ne_int_none (fin_bl I q (by simp))
    | int j => obtain ⟨t', rfl⟩ := ry; exact ne_int (fin_bl I q (congrArg not dec_int))
    | str j => obtain ⟨t', rfl⟩ := ry; exact PySem.EqMixed.ne_int_str (fin_bl I q (by simp))
    | _ => exact absurd (show false = true from hs) Bool.false_ne_true
  | str i =>
    obtain ⟨t, rfl⟩ := rx
    cases y with
    | non => cases ry; exact PySem.EqNone.ne_str_none (fin_bl I q (by simp))
    | bl j => cases ry; exact PySem.EqMixed.ne_str_bool (fin_bl I q (by simp))
    | int j => obtain ⟨t', rfl⟩ := ry; exact PySem.EqMixed.ne_str_int (fin_bl I q (by simp))
    | str j => obtain ⟨t', rfl⟩ := ry; exact ne_str (fin_bl I q (congrArg not dec_str))
    | _ => exact absurd (show false = true from hs) Bool.false_ne_true
  | byt i =>
    obtain ⟨t, rfl⟩ := rx
    cases y with
    | byt j => obtain ⟨t', rfl⟩ := ry; exact PySem.W.ne_bytes (fin_bl I q (congrArg not dec_byt))
    | _ => exact absurd (show false = true from hs) Bool.false_ne_true
  | _ => cases y <;> exact absurd (show false = true from hs) Bool.false_ne_true
theorem op_lt : OpR X (compareOp .Lt) (rI0 fun i j => .bl (decide (i < j))) := opB0 fun _ _ _ _ _ _ _ q => lt_int q
theorem op_le : OpR X (compareOp .LtE) (rI0 fun i j => .bl (decide (i ≤ j))) := opB0 fun _ _ _ _ _ _ _ q => le_int q
theorem op_gt : OpR X (compareOp .Gt) (rI0 fun i j => .bl (decide (j < i))) := opB0 fun _ _ _ _ _ _ _ q => gt_int q
theorem op_ge : OpR X (compareOp .GtE) (rI0 fun i j => .bl (decide (j ≤ i))) := opB0 fun _ _ _ _ _ _ _ q => ge_int q
theorem op_isN : OpR X (compareOp .Is) (fun x y H Q => y = .non ∧ Q (.bl (decide (x = .non))) H) := by
  intro pins s σ H x y v u Q I rx ry h
  obtain ⟨rfl, q⟩ := h
  cases ry
  refine is_none_gen (fin_bl I q ?_)
  cases x <;> first
    | (cases rx; rfl)
    | (obtain ⟨t, rfl⟩ := rx; rfl)
theorem nomark (b : Expr) {op : CmpOp} (h : op ≠ .In := by decide) (h2 : op ≠ .NotIn := by decide) : behindInMarks op b = false := by
  have e1 : (op == CmpOp.In) = false := by cases op <;> first | rfl | exact absurd rfl h
  have e2 : (op == CmpOp.NotIn) = false := by cases op <;> first | rfl | exact absurd rfl h2
  cases b <;> simp [behindInMarks, e1, e2]
theorem pe_cmpR {op : CmpOp} {r : R2} (ho : OpR X (compareOp op) r) (ha : PE X a ta) (hb : PE X b tb) (hm : behindInMarks op b = false) : PE X (.Compare a [op] [b] pos) (tOp r ta tb) := by
  intro pins s σ H Q I h
  exact wpAny_Compare1 (binT ha hb I h fun v u s2 x y H2 I2 rx ry q => ho pins s2 σ H2 x y v u Q I2 rx ry q) hm
def tTest (t : TE) : TT := fun σ H Q => t σ H fun x H' => ∃ k, x = .bl k ∧ Q k H'
theorem pt_cmpR {op : CmpOp} {r : R2} (ho : OpR X (compareOp op) r) (ha : PE X a ta) (hb : PE X b tb) (hm : behindInMarks op b = false) : PT X (.Compare a [op] [b] pos) (tTest (tOp r ta tb)) := by
  intro pins s σ H Q I h
  refine wpAny_isTrue_Compare1 (thn (ha pins s σ H _ I h) fun v s1 ⟨x, H1, I1, r1, q1⟩ => thn (hb pins s1 σ H1 _ I1 q1) fun u s2 ⟨y, H2, I2, r2, q2⟩ =>
    thn (ho pins s2 σ H2 x y v u _ I2 r1 r2 q2) fun c s3 ⟨z, H3, I3, r3, k, e, q3⟩ => ?_) hm
  subst e
  cases r3
  exact wpAny_truthy_bool ⟨H3, I3, q3⟩
def tChain (r r' : R2) (ta tb tc : TE) : TE := fun σ H Q => ta σ H fun x H1 => tb σ H1 fun y H2 => r x y H2 fun z H3 => ∃ k, z = .bl k ∧
  (if k = true then tc σ H3 fun w' H4 => r' y w' H4 Q else Q (.bl false) H3)
theorem pt_chain {op op' : CmpOp} {r r' : R2} (ho : OpR X (compareOp op) r) (ho' : OpR X (compareOp op') r') (ha : PE X a ta) (hb : PE X b tb) (hc : PE X c tc)
    (hm : lastMarks [op, op'] [b, c] = false := by with_unfolding_all rfl) : PT X (.Compare a [op, op'] [b, c] pos) (tTest (tChain r r' ta tb tc)) := by
  intro pins s σ H Q I h
  refine isTrue_chain (thn (ha pins s σ H _ I h) fun v s1 ⟨x, H1, I1, r1, q1⟩ => test_link (thn (hb pins s1 σ H1 _ I1 q1) fun u s2 ⟨y, H2, I2, r2, q2⟩ =>
    thn (ho pins s2 σ H2 x y v u _ I2 r1 r2 q2) fun d s3 ⟨z, H3, I3, r3, k, e, q3⟩ => ?_)) hm
  subst e
  cases r3
  refine wpAny_truthy_bool ?_
  cases k with
  | false =>
    obtain ⟨k', e', q'⟩ := q3
    cases e'
    exact ite_ff ⟨H3, I3, q'⟩
  | true =>
    refine ite_tt (test_last (thn (hc pins s3 σ H3 _ I3 q3) fun w' s4 ⟨z', H4, I4, r4, q4⟩ => thn (ho' pins s4 σ H4 y z' u w' _ I4 r2 r4 q4) fun d' s5 ⟨z2, H5, I5, r5, k2, e2, q5⟩ => ?_))
    subst e2
    cases r5
    exact wpAny_truthy_bool ⟨H5, I5, q5⟩
theorem line63 : (sizeLine : Nat) < 2 ^ 63 := by rw [sizeLine_eq]; decide
theorem vals1 {x : V} {us : List Value} (r : Vals [x] us) : ∃ u, us = [u] ∧ RelV x u := by
  cases r with
  | cons r1 r2 => cases r2; exact ⟨_, rfl, r1⟩
end
end L2
namespace L2
open PySem PySem.Spec PyProof.Rows
structure ObjM (h : Heap) (x dx C : Addr) (mA : Str → Option Value) : Prop where
  obj : h.get? x = some (PySem.W.instObj C dx)
  ns : h.Ns1 dx mA
  ne : dx ≠ x
theorem lookIn_ns {h : Heap} {dx : Addr} {mA : Str → Option Value} (n : h.Ns1 dx mA) : ∃ od, h.get? dx = some od ∧ ∀ name, PySem.W.lookIn name od = some (mA name) := by
  obtain ⟨o, es, ep, ho, hd, hk, _, hm⟩ := n
  refine ⟨o, ho, fun name => ?_⟩
  have e := hm name
  unfold nsFind findBy at e
  rw [← Array.find?_toList] at e
  unfold PySem.W.lookIn
  rw [hd]
  dsimp only
  split
  · rename_i y q
    rw [q] at e
    exact congrArg some e
  · rename_i q
    rw [q] at e
    have a : es.toList.any (·.refKey) = false := by
      rw [List.any_eq_false]
      intro y hy
      obtain ⟨z, t, hkey⟩ := hk y (Array.mem_toList_iff.mp hy)
      simp [DictEntry.refKey, hkey]
    have a' : ¬ es.toList.any (·.refKey) = true := by rw [a]; exact Bool.false_ne_true
    rw [if_neg a']
    exact congrArg some e
theorem ObjM.look {h : Heap} {x dx C : Addr} {mA : Str → Option Value} (I : ObjM h x dx C mA) : ∃ od, PySem.W.InstAt h x (PySem.W.instObj C dx) C (some od) ∧ ∀ name, PySem.W.lookIn name od = some (mA name) :=
  let ⟨od, ho, hl⟩ := lookIn_ns I.ns
  ⟨od, ⟨I.obj, rfl, rfl, ho⟩, hl⟩
section
variable {prog : Program} {w : World} {A : Around} {E : Value → Shared → Prop} {s : Shared} {K : PySem.W.Frag} {x dx C f : Addr} {mA : Str → Option Value} {name : Str} {v : Value}
end
theorem RelO.some_of {v : V} {o : Option Value} (r : RelO (some v) o) : ∃ u, o = some u ∧ RelV v u := by
  cases o with
  | none => exact (show False from r).elim
  | some u => exact ⟨u, rfl, r⟩
theorem handed_of {v : V} {u : Value} (r : RelV v u) : PySem.W.handedIn u = true := by
  cases v with
  | non => cases (show u = Value.none from r); rfl
  | bl b => cases (show u = Value.bool b from r); rfl
  | int i => obtain ⟨t, e⟩ := (show ∃ t, u = Value.int i t from r); cases e; rfl
  | str x => obtain ⟨t, e⟩ := (show ∃ t, u = Value.str x t from r); cases e; rfl
  | byt b => obtain ⟨t, e⟩ := (show ∃ t, u = Value.bytes b t from r); cases e; rfl
  | flt b => obtain ⟨t, e⟩ := (show ∃ t, u = Value.float b t from r); cases e; rfl
  | ref a => cases (show u = Value.ref a from r); rfl
  | ty n => cases (show u = Value.type n from r); rfl
section
variable {P : Program} {w : World} {H H' : Hp} {h h' : Heap} {a C dx : Addr} {fs fs' : List (Str × V)}
theorem ins_get (hok : HOk P w H h) (e : H a = some (.ins C dx fs)) : ∃ mA, ObjM h a dx C mA ∧ (∀ f, RelO (fs.lookup f) (mA f)) ∧ PySem.Within mA (fs.map (·.1)) ∧ fs.length ≤ 1000 ∧ H dx = some (.own a) := by
  obtain ⟨d, z, ne, ob, mA, n, r, q⟩ := (show ObjOk P w H h a (.ins C dx fs) from hok a _ e)
  exact ⟨mA, ⟨ob, n, ne⟩, r, q, z, d⟩
end
structure Cls (K : PySem.W.Frag) (C : Addr) : Prop where
  pg : PySem.W.plainGet K C Str.empty = true
  hd : PySem.W.hasDictIn K C = true
  po : PySem.W.plainOver K C = true
  sa : PySem.W.findIn K (.ref C) "__setattr__" = some (some (.builtin "object.__setattr__"))
theorem Cls.get {K : PySem.W.Frag} {C : Addr} (c : Cls K C) (f : Str) : PySem.W.plainGet K C f = true := c.pg
def NoAttr (K : PySem.W.Frag) (C : Addr) (f : Str) : Prop := PySem.W.findIn K (.ref C) f = some none
section
variable {X : Cx} {pins : List (Addr × Obj)} {σ : St} {H : Hp} {s : Shared} {a C dx : Addr} {fs : List (Str × V)} {f : Str} {v : V} {A : Around} {E : Value → Shared → Prop}
theorem attr_of {prog : Program} {w : World} {env : Env} {e : Expr} {f : Str} {pos : Pos} {s : Shared} {Q : Value → Shared → Prop} (hb : attributeBase e f env (eval e env) = eval e env)
    (h : wpAny (model prog w) A (eval e env) (fun o s₁ => wpAny (model prog w) A (getAttr o f true) Q E s₁) E s) : wpAny (model prog w) A (eval (.Attribute e f pos) env) Q E s :=
  Attribute_any_ h (by rw [arm_eval_Attribute, hb])
end
section
variable {X : Cx} {o e value : Expr} {f : Str} {pos pos' tpos : Pos} {ta tv : TE}
end
section
variable {X : Cx} {pins : List (Addr × Obj)} {σ : St} {H : Hp} {s : Shared} {A : Around} {E : Value → Shared → Prop} {Q : Value → Shared → Prop} {c : Value} {b : Bool}
inductive TyOf (K : PySem.W.Frag) (H : Hp) : V → Value → Prop where
  | non : TyOf K H .non (.type "NoneType")
  | bl (x : Bool) : TyOf K H (.bl x) (.type "bool")
  | int (i : Int) : TyOf K H (.int i) (.type "int")
  | str (x : Str) : TyOf K H (.str x) (.type "str")
  | flt (x : UInt64) : TyOf K H (.flt x) (.type "float")
  | lst {a : Addr} {xs : List V} (e : H a = some (.lst xs)) : TyOf K H (.ref a) (.type "list")
  | frz {a : Addr} {o : Obj} {xs : List V} (e : H a = some (.frz o (.lst xs))) : TyOf K H (.ref a) (.type "list")
  | tup {a : Addr} {xs : List V} (e : H a = some (.tup xs)) : TyOf K H (.ref a) (.type "tuple")
  | dK {a : Addr} {kvs : List (Key × V)} (e : H a = some (.dK kvs)) : TyOf K H (.ref a) (.type "dict")
  | dT {a : Addr} {kvs : List (List Key × V)} (e : H a = some (.dT kvs)) : TyOf K H (.ref a) (.type "dict")
  | ins {a C dx : Addr} {fs : List (Str × V)} (e : H a = some (.ins C dx fs)) (cl : Cls K C) (ha : PySem.W.findIn K (.ref C) "__class__" = some (some (.builtin "object.__class__")))
      (hn : PySem.W.specialIn K (.builtin "object.__class__") "__get__" = some (some (.builtin "getset_descriptor.__get__"))) (htk : PySem.W.takesIn K (.builtin "object.__class__") = some true)
      (hm : PySem.W.mroIn K C (.type "object") = some true) : TyOf K H (.ref a) (.ref C)
theorem isinst_ok {x : V} {u t : Value} (I : Inv X pins σ H s) (rx : RelV x u) (ty : TyOf X.K H x t) (e : PySem.W.kitOne X.K t c = some b) (h : ∀ tk, Q (.bool b) { s with toks := tk }) :
    wpAny (model X.prog X.w) A (call (.builtin "isinstance") [u, c]) Q E s := by
  cases ty with
  | non => cases (show u = Value.none from rx); exact PySem.W.kia_one PySem.W.kitx_none I.kIn True.intro e (fun z => nomatch z) h
  | bl y => cases (show u = Value.bool y from rx); exact PySem.W.kia_one PySem.W.kitx_bool I.kIn True.intro e (fun z => nomatch z) h
  | int i => obtain ⟨t, q⟩ := (show ∃ t, u = Value.int i t from rx); cases q; exact PySem.W.kia_one PySem.W.kitx_int I.kIn True.intro e (fun z => nomatch z) h
  | str y => obtain ⟨t, q⟩ := (show ∃ t, u = Value.str y t from rx); cases q; exact PySem.W.kia_one PySem.W.kitx_str I.kIn True.intro e (fun z => nomatch z) h
  | flt y => obtain ⟨t, q⟩ := (show ∃ t, u = Value.float y t from rx); cases q; exact PySem.W.kia_one PySem.W.kitx_float I.kIn True.intro e (fun z => nomatch z) h
  | @lst a xs ea =>
    cases (show u = Value.ref a from rx)
    obtain ⟨_, _, n, _, h1⟩ := (show ObjOk X.prog X.w H s.heap a (.lst xs) from I.hok a _ ea)
    exact PySem.W.kia_one PySem.W.kitx_list I.kIn ⟨_, h1, rfl⟩ e (fun z => nomatch z) h
  | @frz a ob xs ea =>
    cases (show u = Value.ref a from rx)
    obtain ⟨_, _, _, n, _, h1⟩ := (show ObjOk X.prog X.w H s.heap a (.frz ob (.lst xs)) from I.hok a _ ea)
    exact PySem.W.kia_one PySem.W.kitx_list I.kIn ⟨_, h1, rfl⟩ e (fun z => nomatch z) h
  | @tup a xs ea =>
    cases (show u = Value.ref a from rx)
    obtain ⟨_, _, _, p⟩ := (show ObjOk X.prog X.w H s.heap a (.tup xs) from I.hok a _ ea)
    obtain ⟨o, h1, h2, _⟩ := p
    exact PySem.W.kia_one PySem.W.kitx_tuple I.kIn ⟨o, h1, h2⟩ e (fun z => nomatch z) h
  | @dK a kvs ea =>
    cases (show u = Value.ref a from rx)
    obtain ⟨_, _, vs, _, p⟩ := (show ObjOk X.prog X.w H s.heap a (.dK kvs) from I.hok a _ ea)
    obtain ⟨o, es, ep, h1, h2, _⟩ := p
    exact PySem.W.kia_one PySem.W.kitx_dict I.kIn ⟨o, h1, h2.1⟩ e (fun z => nomatch z) h
  | @dT a kvs ea =>
    cases (show u = Value.ref a from rx)
    obtain ⟨_, _, xs, _, o, es, ep, h1, h2, _⟩ := (show ObjOk X.prog X.w H s.heap a (.dT kvs) from I.hok a _ ea)
    exact PySem.W.kia_one PySem.W.kitx_dict I.kIn ⟨o, h1, h2.1⟩ e (fun z => nomatch z) h
  | @ins a C dx fs ea cl ha hn htk hm =>
    cases (show u = Value.ref a from rx)
    obtain ⟨mA, O, _⟩ := ins_get I.hok ea
    obtain ⟨od, J, _⟩ := O.look
    exact PySem.W.kia_one (PySem.W.kitx_own (cl.get _) cl.hd ha hn htk hm) I.kIn J e (fun z => nomatch z) h
end
end L2
namespace L2
open PySem PySem.Spec PyProof.Rows
structure Room (k : Nat) (A : Around) : Prop where
  hd : A.handled = none
  dp : A.depth + 3 * k + 5 < recursionLimit
  un : A.units + 16 * k + 200 < cLine
theorem Room.mono {j k : Nat} {A : Around} (r : Room k A) (h : j ≤ k) : Room j A := ⟨r.hd, by have := r.dp; omega, by have := r.un; omega⟩
theorem Room.deeper {k : Nat} {A : Around} (r : Room (k + 1) A) (env : Env) : Room k (A.deeper env) :=
  ⟨r.hd, by have := r.dp; show A.depth + 1 + 3 * k + 5 < _; omega, by have := r.un; show A.units + 3 + 16 * k + 200 < _; omega⟩
theorem make_depth {A : Around} {C : Addr} {us : List Value} {kw : List (Str × Value)} : (A.under (.builtin "type.__call__" ⟨.ref C :: us, kw⟩)).depth = A.depth + 1 := by
  first | rfl | simp [Around.under, Code.weight, Code.isCreation, Code.isGuard, Code.isCaller, Code.frames, Code.isFrame, guardIds]
theorem make_units {A : Around} {C : Addr} {us : List Value} {kw : List (Str × Value)} : (A.under (.builtin "type.__call__" ⟨.ref C :: us, kw⟩)).units = A.units + 1 := by
  first | rfl | simp [Around.under, Code.cUnits, Code.frames, Code.isFrame]
theorem Room.make {k : Nat} {A : Around} (r : Room (k + 1) A) (C : Addr) (us : List Value) (kw : List (Str × Value)) : Room k (A.under (.builtin "type.__call__" ⟨.ref C :: us, kw⟩)) :=
  ⟨r.hd, by have := r.dp; rw [make_depth]; omega, by have := r.un; rw [make_units]; omega⟩
theorem Room.depth {k : Nat} {A : Around} (r : Room k A) : A.depth < recursionLimit := by have := r.dp; omega
theorem Room.units {k : Nat} {A : Around} (r : Room k A) : A.units + 64 < cLine := by have := r.un; omega
def tNil : TA := fun _ H Q => Q [] H
def tCons (ta : TE) (tr : TA) : TA := fun σ H Q => ta σ H fun x H1 => tr σ H1 fun xs H2 => Q (x :: xs) H2
section
variable {X : Cx} {e : Expr} {es : List Expr} {te : TE} {t : TA} {pos : Pos}
theorem pa_nil : PA X [] tNil := fun _ _ _ _ H Q I h => Calls.spliced_nil ⟨[], H, I, .nil, h⟩
theorem pa_cons (ha : PE X e te) (hr : PA X es t) (hs : starEach (e :: es) X.env = (false, eval e X.env) :: starEach es X.env := by rfl) : PA X (e :: es) (tCons te t) := by
  intro pos pins s σ H Q I h
  rw [hs]
  show wpAny _ _ (spliced ((false, eval e X.env) :: backTo pos (starEach es X.env))) _ _ s
  refine Calls.spliced_cons (thn (ha pins s σ H _ I h) fun u s1 ⟨x, H1, I1, r1, q1⟩ => ?_)
  exact thn (hr pos pins s1 σ H1 _ I1 q1) fun us s2 ⟨xs, H2, I2, r2, q2⟩ => ⟨x :: xs, H2, I2, .cons r1 r2, q2⟩
def tTup (t : TA) : TE := fun σ H Q => t σ H fun xs H1 => xs.length ≤ sizeLine ∧ ∀ p, H1 p = none → Q (.ref p) (upd H1 p (.tup xs))
def tLst (t : TA) : TE := fun σ H Q => t σ H fun xs H1 => xs.length ≤ sizeLine ∧ ∀ p, H1 p = none → Q (.ref p) (upd H1 p (.lst xs))
theorem pe_tup {x1} (h : PA X es t) : PE X (.Tuple es x1 pos) (tTup t) := by
  intro pins s σ H Q I hq
  refine wpAny_Tuple_spliced (thn (h pos pins s σ H _ I hq) fun us s1 ⟨xs, H1, I1, r, z, q⟩ => ⟨by rw [← r.length]; exact z, ?_⟩)
  have hf : H1 s1.heap.objs.size = none := I1.hok.fresh (Nat.le_refl _)
  refine ⟨.ref s1.heap.objs.size, upd H1 s1.heap.objs.size (.tup xs), I1.laid (t' := s1.toks) (fun b u e => Heap.get?_push_of_some _ e) (Nat.le_refl _) ?_, rfl, q _ hf⟩
  exact ⟨z, us, r, ⟨_, Heap.get?_push_size _ rfl, rfl, _, rfl⟩⟩
theorem pe_lst (h : PA X es t) : PE X (.List es pos) (tLst t) := by
  intro pins s σ H Q I hq
  refine wpAny_List_spliced (thn (h pos pins s σ H _ I hq) fun us s1 ⟨xs, H1, I1, r, z, q⟩ => ⟨by rw [← r.length]; exact z, ?_⟩)
  have hf : H1 s1.heap.objs.size = none := I1.hok.fresh (Nat.le_refl _)
  refine ⟨.ref s1.heap.objs.size, upd H1 s1.heap.objs.size (.lst xs), I1.laid (t' := s1.toks) (fun b u e => Heap.get?_push_of_some _ e) (Nat.le_refl _) ?_, rfl, q _ hf⟩
  exact ⟨z, us, 0, r, Heap.get?_push_size _ rfl⟩
end
abbrev Sp := List V → Hp → VK → XK → Prop
abbrev CXT := List Env → Hp → Shared → XK → Value → Shared → Prop
structure Env0 (P : Program) (w : World) (K : PySem.W.Frag) (mg : Str → Option Value) (base : Heap) (A : Around) (outer : List Env) (s : Shared) (H : Hp) : Prop where
  frames : A.frames = some outer
  mod : Mod K mg base
  bs : ∀ b o, base.get? b = some o → s.heap.get? b = some o ∧ H b = none
  bsz : base.objs.size ≤ s.heap.objs.size
  funs : s.heap.FunFrames base outer
  frf : ∀ b ∈ frs outer, H b = none
  hok : HOk P w H s.heap
  bare : AllBare s.gens
def CE (outer : List Env) (P : Program) (w : World) (H : Hp) (s : Shared) (Q : VK) (u : Value) (s' : Shared) : Prop :=
  ∃ v H', s'.os = s.os ∧ AllBare s'.gens ∧ Un (frs outer) [] H H' s.heap s'.heap ∧ HOk P w H' s'.heap ∧ RelV v u ∧ Q v H'
def CR (CX : CXT) (outer : List Env) (P : Program) (w : World) (H : Hp) (s : Shared) (Q : VK) (E : XK) (r : Result) (s' : Shared) : Prop :=
  match r with
  | .ok (.ret u) => CE outer P w H s Q u s'
  | .ok _ => False
  | .error e => CX outer H s E e s'
structure FnOk (P : Program) (w : World) (K : PySem.W.Frag) (mg : Str → Option Value) (base : Heap) (CX : CXT) (k : Nat) (f : Addr) (fd : FuncData) (ps : List Str) (sp : Sp) : Prop where
  len : ∀ vs H Q E, sp vs H Q E → vs.length = ps.length
  run : ∀ (A : Around) (outer : List Env) (s : Shared) (H : Hp) (args : Args) (us : List Value) (vs : List V) (Q : VK) (E : XK), Room k A → Env0 P w K mg base A outer s H → BindsTo s fd args (ps.zip us) → Vals vs us → sp vs H Q E →
    codeAny (model P w) A (.call (.ref f) args) (CR CX outer P w H s Q E) s
theorem FnOk.imp {P : Program} {w : World} {K : PySem.W.Frag} {mg : Str → Option Value} {base : Heap} {CX : CXT} {k : Nat} {f : Addr} {fd : FuncData} {ps : List Str} {sp sp' : Sp} (F : FnOk P w K mg base CX k f fd ps sp)
    (h : ∀ vs H Q E, sp' vs H Q E → sp vs H Q E) : FnOk P w K mg base CX k f fd ps sp' :=
  ⟨fun vs H Q E q => F.len vs H Q E (h _ _ _ _ q), fun A outer s H args us vs Q E hr he hb hv hs => F.run A outer s H args us vs Q E hr he hb hv (h _ _ _ _ hs)⟩
theorem Env0.make {P : Program} {w : World} {K : PySem.W.Frag} {mg : Str → Option Value} {base : Heap} {A : Around} {outer : List Env} {s : Shared} {H : Hp} (e : Env0 P w K mg base A outer s H) (C : Addr) (us : List Value) (kw : List (Str × Value)) :
    Env0 P w K mg base (A.under (.builtin "type.__call__" ⟨.ref C :: us, kw⟩)) outer s H := ⟨by first | exact e.frames | (simpa [Around.under, Code.envs, Code.isFrame, pushEnvs] using e.frames), e.mod, e.bs, e.bsz, e.funs, e.frf, e.hok, e.bare⟩
section
variable {X : Cx} {pins : List (Addr × Obj)} {σ : St} {H : Hp} {s s' : Shared}
theorem Inv.env0 (I : Inv X pins σ H s) : Env0 X.prog X.w X.K X.mg X.base X.A X.stack s H :=
  ⟨I.ok.frames, I.ok.mod, I.bs, Nat.le_trans I.ok.bsz I.sz, I.stack, I.stkFree, I.hok, I.bare⟩
theorem Inv.after {Q : VK} {u : Value} (I : Inv X pins σ H s) (h : CE X.stack X.prog X.w H s Q u s') : EP X pins σ Q u s' := by
  obtain ⟨v, H', os, bare, un, hok, r, q⟩ := h
  obtain ⟨hh, g, d, t, os'⟩ := s'
  obtain rfl : os' = s.os := os
  exact ⟨v, H', I.call (h' := hh) (g' := g) (d' := d) (t' := t) (ch := []) un hok bare (fun b z => absurd z (by simp)), r, q⟩
end
def tCall (sp : Sp) (dvs : List V) (E : XK) (t : TA) : TE := fun σ H Q => t σ H fun vs H1 => sp (vs ++ dvs) H1 Q E
def Binds (K : PySem.W.Frag) (fd : FuncData) (ps : List Str) (ds : List Value) : Prop :=
  ∀ (s : Shared) (us : List Value), K.In s.heap → (us ++ ds).length = ps.length → BindsTo s fd ⟨us, []⟩ (ps.zip (us ++ ds))
theorem Binds.all {K : PySem.W.Frag} {fd : FuncData} {ps : List Str} (h : ∀ us : List Value, us.length = ps.length → bindArgs fd ⟨us, []⟩ = pure (ps.zip us)) : Binds K fd ps [] := fun s us _ hl => by
  rw [List.append_nil] at hl ⊢
  exact .of_eq (h us hl)
def Passes (CX : CXT) (X : Cx) (E : XK) : Prop := ∀ (pins : List (Addr × Obj)) (σ : St) (H : Hp) (s : Shared) (e : Value) (s' : Shared), Inv X pins σ H s → CX X.stack H s E e s' → X.xe e s'
section
variable {X : Cx} {CX : CXT} {k : Nat} {f C : Addr} {fd : FuncData} {ps : List Str} {sp : Sp} {dvs : List V} {ds : List Value} {E : XK} {x m : Str} {p pos apos : Pos} {e o : Expr} {es : List Expr} {ta : TE} {t : TA}
theorem run_fn {pins : List (Addr × Obj)} {σ : St} {H : Hp} {s : Shared} {Q : VK} {us : List Value} {vs : List V} (F : FnOk X.prog X.w X.K X.mg X.base CX k f fd ps sp) (hr : Room k X.A) (hb : Binds X.K fd ps ds) (hd : Vals dvs ds) (hx : Passes CX X E)
    (I : Inv X pins σ H s) (r : Vals vs us) (h : sp (vs ++ dvs) H Q E) : wpAny (model X.prog X.w) X.A (call (.ref f) us) (EP X pins σ Q) X.xe s := by
  have r2 : Vals (vs ++ dvs) (us ++ ds) := r.append hd
  have hl : (us ++ ds).length = ps.length := by rw [← r2.length]; exact F.len _ _ _ _ h
  refine wpAny_call (codeAny_mono (F.run X.A X.stack s H ⟨us, []⟩ (us ++ ds) (vs ++ dvs) Q E hr I.env0 (hb s us I.kIn hl) r2 h) fun r s' hq => ?_)
  cases r with
  | error e => exact hx pins σ H s e s' I hq
  | ok fl =>
    cases fl with
    | ret u => exact I.after hq
    | next => exact False.elim hq
    | brk => exact False.elim hq
    | cont => exact False.elim hq
theorem pe_call (F : FnOk X.prog X.w X.K X.mg X.base CX k f fd ps sp) (hr : Room k X.A) (hg : Gl X x) (hm : X.mg x = some (.ref f)) (hk : PySem.W.keepIn X.K (.ref f) = true) (hb : Binds X.K fd ps ds) (hd : Vals dvs ds) (hx : Passes CX X E)
    (ha : PA X (e :: es) t) (hdb : (x == ("__debug__" : Str)) = false := by decide) (he : starEach (e :: es) X.env = (false, eval e X.env) :: starEach es X.env := by rfl) (hpl : (backTo pos (starEach es X.env)).any (·.1) = false := by rfl) :
    PE X (.Call (.Name x p) (e :: es) [] pos) (tCall sp dvs E t) := by
  intro pins s σ H Q I h
  refine wpAny_Call_Name_kw (ld_glob I hg hm ?_ hdb)
  refine PySem.W.callWith_K (h₀ := X.base) I.ok.mod.kin hk (thn (ha pos pins s σ H _ I h) fun us s1 ⟨vs, H1, I1, r, q⟩ => ⟨I1.kIn, ?_⟩) he hpl
  exact run_fn F hr hb hd hx I1 r q
end
section
variable {X : Cx} {CX : CXT} {k : Nat} {f C : Addr} {fd : FuncData} {ps ks : List Str} {sp : Sp} {E : XK} {x m : Str} {p pos apos kpos : Pos} {e o : Expr} {es : List Expr} {kws : List Keyword} {te ta : TE} {t tk : TA} {nm : Option Str}
variable {g : List Value → List Value → List Value} {gV : List V → List V → List V}
end
structure FnScope (N P : List Str) (sc : Scope) : Prop where
  kind : sc.kind = .function
  co : sc.isCoroutine = false
  gen : sc.isGenerator = false
  nd : N.Nodup
  pre : N.take P.length = P
  par : ∀ x ∈ P, sc.names.lookup x = some .local ∨ sc.names.lookup x = some .cell
  nofree : ∀ y ∈ sc.names, y.2 ≠ .free
theorem bindL_out {kindOf : Str → Option NameKind} {x : Str} : ∀ {binds : List (Str × Value)} {m : Str → Option Value}, (∀ v, (x, v) ∉ binds) → bindL kindOf binds m x = m x
  | [], _, _ => rfl
  | (n, v) :: r, m, h => by
    unfold bindL
    rw [bindL_out fun w hw => h w (List.mem_cons_of_mem _ hw)]
    split
    · have : x ≠ n := by rintro rfl; exact h v List.mem_cons_self
      simp [this]
    · rfl
theorem bindC_out {kindOf : Str → Option NameKind} {x : Str} : ∀ {binds : List (Str × Value)} {m : Str → Option Value}, (∀ v, (x, v) ∉ binds) → bindC kindOf binds m x = m x
  | [], _, _ => rfl
  | (n, v) :: r, m, h => by
    unfold bindC
    rw [bindC_out fun w hw => h w (List.mem_cons_of_mem _ hw)]
    split
    · rfl
    · have : x ≠ n := by rintro rfl; exact h v List.mem_cons_self
      simp [this]
theorem bindL_get {kindOf : Str → Option NameKind} {x : Str} {v : Value} : ∀ {P : List Str} {vs : List Value} {i : Nat} {m : Str → Option Value}, P.Nodup → P[i]? = some x → vs[i]? = some v → kindOf x = some .local →
    bindL kindOf (P.zip vs) m x = some v
  | [], _, _, _, _, h, _, _ => by simp at h
  | _ :: _, [], _, _, _, _, h, _ => by simp at h
  | p :: P, w :: vs, 0, m, nd, h1, h2, hk => by
    simp at h1 h2; subst h1; subst h2
    show bindL kindOf ((p, w) :: P.zip vs) m p = _
    unfold bindL
    rw [bindL_out fun v hv => (List.nodup_cons.mp nd).1 (List.of_mem_zip hv).1, if_pos hk]
    simp
  | p :: P, w :: vs, i + 1, m, nd, h1, h2, hk => by
    show bindL kindOf ((p, w) :: P.zip vs) m x = _
    unfold bindL
    exact bindL_get (i := i) (List.nodup_cons.mp nd).2 (by simpa using h1) (by simpa using h2) hk
theorem bindC_get {kindOf : Str → Option NameKind} {x : Str} {v : Value} : ∀ {P : List Str} {vs : List Value} {i : Nat} {m : Str → Option Value}, P.Nodup → P[i]? = some x → vs[i]? = some v → kindOf x ≠ some .local →
    bindC kindOf (P.zip vs) m x = some v
  | [], _, _, _, _, h, _, _ => by simp at h
  | _ :: _, [], _, _, _, _, h, _ => by simp at h
  | p :: P, w :: vs, 0, m, nd, h1, h2, hk => by
    simp at h1 h2; subst h1; subst h2
    show bindC kindOf ((p, w) :: P.zip vs) m p = _
    unfold bindC
    rw [bindC_out fun v hv => (List.nodup_cons.mp nd).1 (List.of_mem_zip hv).1, if_neg hk]
    simp
  | p :: P, w :: vs, i + 1, m, nd, h1, h2, hk => by
    show bindC kindOf ((p, w) :: P.zip vs) m x = _
    unfold bindC
    exact bindC_get (i := i) (List.nodup_cons.mp nd).2 (by simpa using h1) (by simpa using h2) hk
def start (N : List Str) (vs : List V) : St := vs.map some ++ List.replicate (N.length - vs.length) none
def cxOf (CX : CXT) (P : Program) (w : World) (K : PySem.W.Frag) (mg : Str → Option Value) (base : Heap) (N : List Str) (qual : Str) (scope : Scope) (f : Addr) (cd : Value) (A : Around) (outer : List Env) (s : Shared) (H : Hp) (E : XK) : Cx where
  prog := P
  w := w
  K := K
  mg := mg
  base := base
  A := A.deeper (envOfC qual scope s.heap.objs.size f cd)
  N := N
  s₀ := s
  H₀ := H
  env := envOfC qual scope s.heap.objs.size f cd
  outer := outer
  stack := envOfC qual scope s.heap.objs.size f cd :: outer
  ex := []
  calm := true
  fn := fun _ => true
  pn := []
  xe := fun e s' => wpAny (model P w) (A.deeper (envOfC qual scope s.heap.objs.size f cd)) (leaving (envOfC qual scope s.heap.objs.size f cd) e) (fun _ s'' => CX outer H s E e s'') (fun e' s'' => CX outer H s E e' s'') s'
theorem cell_has {sc : Scope} {n : Nat} {x : Str} (h : sc.names.lookup x = some .cell) : ∃ c, (cellsFrom n sc.names []).lookup x = some c := by
  have q := PySem.W.cellsFrom_some sc.names n [] (.inl h)
  exact Option.isSome_iff_exists.mp q
theorem inv_start {CX : CXT} {P : Program} {w : World} {K : PySem.W.Frag} {mg : Str → Option Value} {base : Heap} {N ps : List Str} {qual : Str} {scope : Scope} {f : Addr} {cd : Value} {A : Around} {outer : List Env} {s s1 : Shared} {H : Hp} {E : XK} {us : List Value} {vs : List V}
    (S : FnScope N ps scope) (hd : A.handled = none) (e0 : Env0 P w K mg base A outer s H) (hl : vs.length = ps.length) (r : Vals vs us)
    (x : InCallC s s.heap.objs.size (bindL (envOfC qual scope s.heap.objs.size f cd).kindOf (ps.zip us) fun _ => none) (cellsFrom (s.heap.objs.size + 1) scope.names []) (bindC (envOfC qual scope s.heap.objs.size f cd).kindOf (ps.zip us) fun _ => none) s1) :
    Inv (cxOf CX P w K mg base N qual scope f cd A outer s H E) [] (start N vs) H s1 := by
  have hpl : ps.length ≤ N.length := by have := congrArg List.length S.pre; rw [List.length_take] at this; omega
  obtain ⟨h1, tk, rfl, hk⟩ := x.done
  have noA : ∀ b : Addr, b ∉ (cxOf CX P w K mg base N qual scope f cd A outer s H E).ex := fun b z => absurd (show b ∈ ([] : List Addr) from z) (by simp)
  refine ⟨⟨e0.mod, S.kind, rfl, rfl, Nat.le_refl _, fun y z c h1 h2 => ?_, fun y hy => ?_, fun y c _ h => ?_, fun _ => hd, Around.frames_deeper e0.frames, .inr ⟨rfl, rfl⟩, fun b z => absurd z (noA b), e0.bs, e0.bsz, fun b _ _ => noA b, fun b z => absurd z (noA b), e0.funs, e0.frf⟩,
    rfl, e0.bare, Un.kept hk, ⟨_, x.toInCall.ns, fun i y v h1 h2 h3 => ?_⟩, fun y c h => ⟨_, x.cell y c h⟩, e0.hok.fresh (Nat.le_refl _), fun y c h => ?_, fun p hp => absurd (show p ∈ ([] : List (Addr × Obj)) from hp) (by simp), e0.hok.kept hk, ?_⟩
  · exact name_of_addr x.apart (PySem.mem_of_lookup h1) (PySem.mem_of_lookup h2)
  · have hy : scope.names.lookup y = some .cell ∨ scope.names.lookup y = some .free := hy
    rcases hy with hy | hy
    · exact cell_has hy
    · exact absurd rfl (S.nofree _ (PySem.mem_of_lookup hy))
  · exact Nat.le_of_lt (x.above y c (PySem.mem_of_lookup h))
  · have hi : i < vs.length := by
      unfold start at h2
      by_cases hi : i < vs.length
      · exact hi
      · rw [List.getElem?_append_right (by simpa using hi)] at h2
        rw [List.getElem?_replicate] at h2
        split at h2 <;> cases h2
    have ha : vs[i]? = some v := by
      unfold start at h2
      rw [List.getElem?_append_left (by simpa using hi), List.getElem?_map] at h2
      cases e : vs[i]? with
      | none => rw [e] at h2; cases h2
      | some a => rw [e] at h2; cases h2; rfl
    obtain ⟨u, hu, rv⟩ := r.get ha
    have hp : ps[i]? = some y := by
      rw [← S.pre, List.getElem?_take_of_lt (by omega)]; exact h1
    have ndP : ps.Nodup := by rw [← S.pre]; exact S.nd.sublist (List.take_sublist _ _)
    refine ⟨u, rv, ?_⟩
    rcases S.par y (List.mem_of_getElem? hp) with k | k
    · exact .inl ⟨k, bindL_get ndP hp hu k⟩
    · obtain ⟨c, e⟩ := cell_has (n := s.heap.objs.size + 1) k
      refine .inr ⟨.inl k, c, e, ?_⟩
      have q := x.cell y c e
      rw [bindC_get ndP hp hu (by show scope.names.lookup y ≠ _; rw [k]; decide)] at q
      exact q
  · exact e0.hok.fresh (Nat.le_of_lt (x.above y c (PySem.mem_of_lookup h)))
  · unfold start
    show _ = N.length
    rw [List.length_append, List.length_map, List.length_replicate]
    omega
theorem fn_of {CX : CXT} {P : Program} {w : World} {K : PySem.W.Frag} {mg : Str → Option Value} {base : Heap} {k : Nat} {f : Addr} {name qual : Str} {params : Arguments} {body : List Stmt} {scope : Scope} {dV kV doc pm cdv ct oc : Value} {an od : Option Addr}
    {osl : Array (Option Value)} {N ps : List Str} {sp : Sp} (lk : K.lookup f = some ⟨oc, od, .func (PySem.W.fnOf name qual params body scope dV kV doc pm an cdv ct), osl⟩) (hcd : PySem.W.codeIn K cdv qual = true) (S : FnScope N ps scope)
    (len : ∀ vs H Q E, sp vs H Q E → vs.length = ps.length)
    (hbody : ∀ (A : Around) (outer : List Env) (s : Shared) (H : Hp) (vs : List V) (Q : VK) (E : XK), Room k (A.deeper (envOfC qual scope s.heap.objs.size f cdv)) → sp vs H Q E →
      ∃ t, PSs (cxOf CX P w K mg base N qual scope f cdv A outer s H E) body t ∧ t { nx := fun _ H' => Q .non H', rt := Q } (start N vs) H) :
    FnOk P w K mg base CX (k + 1) f (PySem.W.fnOf name qual params body scope dV kV doc pm an cdv ct) ps sp := by
  refine ⟨len, fun A outer s H args us vs Q E hr e0 hb r hsp => ?_⟩
  have hl := len _ _ _ _ hsp
  have KX : K.In s.heap := e0.mod.kin.keeps fun b o e => (e0.bs b o e).1
  have lim : s.heap.NoLimit := e0.mod.nolimit.keeps fun b o e => (e0.bs b o e).1
  have hkind : ∀ y ∈ ps.zip us, scope.names.lookup y.1 = some .local ∨ (scope.names.lookup y.1 = some .cell ∧ ((cellsFrom (s.heap.objs.size + 1) scope.names []).lookup y.1).isSome = true) := fun ⟨n, v⟩ hy => by
    rcases S.par n (List.of_mem_zip hy).1 with q | q
    · exact .inl q
    · exact .inr ⟨q, PySem.W.cellsFrom_some _ _ _ (.inl q)⟩
  refine codeAny_call_function hr.depth (KX _ _ lk) rfl S.co S.gen rfl (PySem.W.codeRec_of KX hcd) (hb _ _ _ _ ?_)
  refine wpAny_newFunctionEnv_cells S.kind hkind fun env he s1 x => ?_
  subst he
  refine ⟨lim.keeps x.toInCall.keep, codeAny_func ?_⟩
  obtain ⟨t, ht, hq⟩ := hbody A outer s H vs Q E (hr.deeper _) hsp
  have I : Inv (cxOf CX P w K mg base N qual scope f cdv A outer s H E) [] (start N vs) H s1 := inv_start S hr.hd e0 hl r x
  refine wpAny_mono (ht [] s1 (start N vs) H _ I hq) (fun fl s' hs => ?_) fun e s' hs => hs
  have fin : ∀ {σ' : St} {H' : Hp} {v : V} {u : Value}, Inv (cxOf CX P w K mg base N qual scope f cdv A outer s H E) [] σ' H' s' → RelV v u → Q v H' → CE outer P w H s Q u s' :=
    fun {σ' H' v u} J rv q => ⟨v, H', J.os, J.bare, J.base, J.hok, rv, q⟩
  cases fl with
  | ret u =>
    obtain ⟨v, σ', H', J, rv, q⟩ := hs
    exact fin J rv q
  | next =>
    obtain ⟨σ', H', J, q⟩ := hs
    exact fin (v := V.non) (u := Value.none) J rfl q
  | brk =>
    obtain ⟨_, _, _, q⟩ := hs
    exact False.elim q
  | cont =>
    obtain ⟨_, _, _, q⟩ := hs
    exact False.elim q
end L2
namespace L2
open PySem PySem.Spec PyProof.Rows
section
variable {X : Cx} {x : Str} {p pos : Pos} {e : Expr} {es : List Expr} {t : TA} {id T : String} {r : List V → Hp → VK → Prop}
def tCB (r : List V → Hp → VK → Prop) (t : TA) : TE := fun σ H Q => t σ H fun vs H1 => r vs H1 Q
theorem pe_callB (hc : CallR X (.builtin id) r) (hg : Gl X x) (hm : X.mg x = none) (hv : bootBuiltins x = some (.builtin id)) (ha : PA X (e :: es) t) (hn : x ≠ "__name__" := by decide) (hdb : (x == ("__debug__" : Str)) = false := by decide)
    (he : starEach (e :: es) X.env = (false, eval e X.env) :: starEach es X.env := by rfl) (hpl : (backTo pos (starEach es X.env)).any (·.1) = false := by rfl) : PE X (.Call (.Name x p) (e :: es) [] pos) (tCB r t) := by
  intro pins s σ H Q I h
  refine wpAny_Call_Name_kw (ld_blt I hg hm hv ?_ hn hdb)
  exact PyProof.Rows.callWith_builtin1 (thn (ha pos pins s σ H _ I h) fun us s1 ⟨vs, H1, I1, r1, q1⟩ => hc pins s1 σ H1 vs us Q I1 r1 q1) he hpl
theorem pe_callTy (hc : CallR X (.type T) r) (hg : Gl X x) (hm : X.mg x = none) (hv : bootBuiltins x = some (.type T)) (ha : PA X (e :: es) t) (hn : x ≠ "__name__" := by decide) (hdb : (x == ("__debug__" : Str)) = false := by decide)
    (he : starEach (e :: es) X.env = (false, eval e X.env) :: starEach es X.env := by rfl) (hpl : (backTo pos (starEach es X.env)).any (·.1) = false := by rfl) : PE X (.Call (.Name x p) (e :: es) [] pos) (tCB r t) := by
  intro pins s σ H Q I h
  refine wpAny_Call_Name_kw (ld_blt I hg hm hv ?_ hn hdb)
  exact PyProof.Rows.callWith_type1 (thn (ha pos pins s σ H _ I h) fun us s1 ⟨vs, H1, I1, r1, q1⟩ => hc pins s1 σ H1 vs us Q I1 r1 q1) he hpl
end
end L2
namespace HT
open PySem PyProof.Rows
section
open PySem.SeqAt
open PySem.AutoSeq1 (wpAny_loadPart')
open PySem.MeetsSeq PySem.MeetsSeq2 PySem.MeetsSeq3
end
section
variable {prog : Program} {w : World} {A : Around} {E : Value → Shared → Prop} {s : Shared}
def sIx (n d : Nat) : Option Int → Nat
  | none => d
  | some v => if v < 0 then (v + (n : Int)).toNat else min v.toNat n
theorem sIx_nat (n d k : Nat) : sIx n d (some (k : Int)) = min k n := by
  show (if (k : Int) < 0 then ((k : Int) + (n : Int)).toNat else min (k : Int).toNat n) = min k n
  rw [if_neg (by omega), Int.toNat_natCast]
end
end HT
namespace L2
open PySem PySem.Spec PyProof.Rows
abbrev TO := St → Hp → (Option Int → Hp → Prop) → Prop
def PO (X : Cx) (e : Option Expr) (t : TO) : Prop :=
  ∀ (pins : List (Addr × Obj)) (s : Shared) (σ : St) (H : Hp) (Q : Option Int → Hp → Prop), Inv X pins σ H s → t σ H Q →
    wpAny (model X.prog X.w) X.A (evalPart e X.env) (fun u s' => ∃ o H', Inv X pins σ H' s' ∧ IsPart u o ∧ Q o H') X.xe s
def tNoPart : TO := fun _ H Q => Q none H
def tPart (t : TE) : TO := fun σ H Q => t σ H fun x H1 => ∃ i, x = .int i ∧ Q (some i) H1
theorem intsAre_of {ns : List Int} : ∀ {us : List Value}, Vals (ns.map V.int) us → IntsAre us ns := by
  induction ns with
  | nil => intro us r; rw [List.map_nil] at r; cases r; exact .nil
  | cons n ns ih =>
    intro us r
    rw [List.map_cons] at r
    cases r with
    | cons r1 r2 =>
      obtain ⟨t, e⟩ := r1
      subst e
      exact .cons n t (ih r2)
section
variable {X : Cx} {e : Expr} {te : TE} {lo hi : Option Expr} {tl th : TO} {pos p2 : Pos}
theorem po_none : PO X none tNoPart := by
  intro pins s σ H Q I h
  rw [evalPart_none]
  exact wpAny_pure ⟨none, H, I, .none, h⟩
theorem po_some (h : PE X e te) : PO X (some e) (tPart te) := by
  intro pins s σ H Q I hw
  rw [evalPart_some]
  refine thn (h pins s σ H _ I hw) fun u s1 ⟨x, H1, I1, r1, q1⟩ => ?_
  obtain ⟨i, rfl, q⟩ := q1
  obtain ⟨t, rfl⟩ := r1
  exact ⟨some i, H1, I1, .int i t, q⟩
def SlR (X : Cx) (r : V → Option Int → Option Int → Hp → VK → Prop) : Prop :=
  ∀ (pins : List (Addr × Obj)) (s : Shared) (σ : St) (H : Hp) (x : V) (v vl vu : Value) (lo hi : Option Int) (sl : Addr) (Q : VK), Inv X pins σ H s → RelV x v → s.heap.IsSliceOf sl vl vu .none → IsPart vl lo → IsPart vu hi → r x lo hi H Q →
    ∃ T id, typeLookup (.type T) "__getitem__" = pure (some (.builtin id)) ∧ s.TypeIs v T ∧ wpAny (model X.prog X.w) X.A (getItem v (.ref sl)) (EP X pins σ Q) X.xe s
def tSl (r : V → Option Int → Option Int → Hp → VK → Prop) (te : TE) (tl th : TO) : TE := fun σ H Q => te σ H fun x H1 => tl σ H1 fun l H2 => th σ H2 fun u H3 => r x l u H3 Q
theorem pe_slice {r : V → Option Int → Option Int → Hp → VK → Prop} (hr : SlR X r) (he : PE X e te) (hl : PO X lo tl) (hu : PO X hi th) : PE X (.Subscript e (.Slice lo hi none p2) pos) (tSl r te tl th) := by
  intro pins s σ H Q I h
  refine Subscript_ (thn (he pins s σ H _ I h) fun v s1 ⟨x, H1, I1, r1, q1⟩ => ?_)
  refine wpAny_Slice (thn (hl pins s1 σ H1 _ I1 q1) fun vl s2 ⟨l, H2, I2, pl, q2⟩ => thn (hu pins s2 σ H2 _ I2 q2) fun vu s3 ⟨u, H3, I3, pu, q3⟩ => ?_)
  rw [evalPart_none]
  refine wpAny_pure ?_
  have I4 : Inv X pins σ H3 { s3 with heap := s3.heap.push { cls := .type "slice", data := .fields #[vl, vu, .none] } } := I3.kept (t' := s3.toks) fun b ob q => Heap.get?_push_of_some _ q
  obtain ⟨T, id, hT, ht, hg⟩ := hr pins { s3 with heap := s3.heap.push { cls := .type "slice", data := .fields #[vl, vu, .none] } } σ H3 x v vl vu l u s3.heap.objs.size Q I4 r1 (Heap.IsSliceOf.new ..) pl pu q3
  show wpAny (model X.prog X.w) X.A (subscriptTail e (.Slice lo hi none p2) v (.ref s3.heap.objs.size)) (EP X pins σ Q) X.xe { s3 with heap := s3.heap.push { cls := .type "slice", data := .fields #[vl, vu, .none] } }
  exact tail_any (ops := [.ref s3.heap.objs.size, v]) ht hT hg (by with_unfolding_all rfl)
def cutV (xs : List V) (lo hi : Option Int) : List V := (xs.drop (HT.sIx xs.length 0 lo)).take (HT.sIx xs.length xs.length hi - HT.sIx xs.length 0 lo)
theorem cutV_length (xs : List V) (lo hi : Option Int) : (cutV xs lo hi).length ≤ xs.length := by
  unfold cutV
  rw [List.length_take, List.length_drop]
  omega
end
end L2
namespace L2
open PySem PySem.Spec PyProof.Rows
def ixN (n : Nat) (i : Int) : Option Nat := if 0 ≤ i then (if i < n then some i.toNat else none) else if -(n : Int) ≤ i then some (i + n).toNat else none
def atI {α : Type} (xs : List α) (i : Int) : Option α := (ixN xs.length i).bind fun j => xs[j]?
theorem ixN_seq {n : Nat} {i : Int} {j : Nat} (h : ixN n i = some j) : seqIndex? i n = some j ∧ j < n ∧ -(n : Int) ≤ i ∧ i < n := by
  unfold ixN at h
  by_cases h0 : 0 ≤ i
  · rw [if_pos h0] at h
    by_cases h1 : i < n
    · rw [if_pos h1] at h
      have e : i.toNat = j := Option.some.inj h
      exact ⟨by rw [seqIndex_of h0 h1, e], by omega, by omega, h1⟩
    · rw [if_neg h1] at h; cases h
  · rw [if_neg h0] at h
    by_cases h1 : -(n : Int) ≤ i
    · rw [if_pos h1] at h
      have e : (i + n).toNat = j := Option.some.inj h
      exact ⟨by rw [seqIndex_neg (by omega) h1, e], by omega, h1, by omega⟩
    · rw [if_neg h1] at h; cases h
theorem atI_get {α : Type} {xs : List α} {i : Int} {v : α} (h : atI xs i = some v) : ∃ j, seqIndex? i xs.length = some j ∧ xs[j]? = some v ∧ j < xs.length ∧ -(xs.length : Int) ≤ i ∧ i < xs.length := by
  unfold atI at h
  cases e : ixN xs.length i with
  | none => rw [e] at h; cases h
  | some j =>
    rw [e] at h
    obtain ⟨h1, h2, h3, h4⟩ := ixN_seq e
    exact ⟨j, h1, h, h2, h3, h4⟩
theorem atI_nat {α : Type} {xs : List α} {j : Nat} {v : α} (h : xs[j]? = some v) : atI xs (j : Int) = some v := by
  have hj : j < xs.length := (List.getElem?_eq_some_iff.mp h).1
  have e : ixN xs.length (j : Int) = some j := by
    unfold ixN
    rw [if_pos (by omega), if_pos (by omega)]; simp
  unfold atI; rw [e]; exact h
def PlainIx (b : Expr) : Prop := ∀ o i, subscripted b false o i = operate [o, i] (getItem o i)
def IxR (X : Cx) (r : R2) : Prop :=
  ∀ (value slice : Expr) (pins : List (Addr × Obj)) (s : Shared) (σ : St) (H : Hp) (x y : V) (v u : Value) (Q : VK), Inv X pins σ H s → RelV x v → RelV y u → r x y H Q →
    subscripted slice false v u = operate [v, u] (getItem v u) → wpAny (model X.prog X.w) X.A (subscriptTail value slice v u) (EP X pins σ Q) X.xe s
def MtR (X : Cx) (id : String) (r : V → List V → Hp → VK → Prop) : Prop :=
  ∀ (pins : List (Addr × Obj)) (s : Shared) (σ : St) (H : Hp) (x : V) (xs : List V) (v : Value) (us : List Value) (Q : VK), Inv X pins σ H s → RelV x v → Vals xs us → r x xs H Q →
    wpAny (model X.prog X.w) X.A (call (.builtin id) (v :: us)) (EP X pins σ Q) X.xe s
section
variable {X : Cx} {a b : Expr} {ta tb : TE} {pos : Pos}
theorem pe_ix {r : R2} (hr : IxR X r) (ha : PE X a ta) (hb : PE X b tb) (hs : PlainIx b) : PE X (.Subscript a b pos) (tOp r ta tb) := by
  intro pins s σ H Q I h
  exact Subscript_ (binT ha hb I h fun v u s2 x y H2 I2 rx ry q => hr a b pins s2 σ H2 x y v u Q I2 rx ry q (hs _ _))
def rIxL (K : PySem.W.Frag) : R2 := fun x y H Q => ∃ p xs i v, x = .ref p ∧ y = .int i ∧ SqL K H p xs ∧ atI xs i = some v ∧ Q v H
def rIxT (K : PySem.W.Frag) : R2 := fun x y H Q => ∃ p xs i v, x = .ref p ∧ y = .int i ∧ SqT K H p xs ∧ atI xs i = some v ∧ Q v H
theorem ix_list : IxR X (rIxL X.K) := by
  intro value slice pins s σ H x y v u Q I rx ry h hs
  obtain ⟨p, xs, i, z, rfl, rfl, hq, he, q⟩ := h
  cases rx
  obtain ⟨t, rfl⟩ := ry
  obtain ⟨its, r, pl, hz⟩ := I.list hq
  obtain ⟨j, h1, h2, h3, h4, h5⟩ := atI_get he
  obtain ⟨w, ew, rw'⟩ := r.get h2
  have hl := r.length
  have hn := line63
  have fin : EP X pins σ Q w s := ⟨z, H, I, rw', q⟩
  by_cases h0 : 0 ≤ i
  · have hj : i.toNat = j := by
      rw [seqIndex_of h0 h5] at h1
      exact Option.some.inj h1
    exact item_listR pl.isList h0 (by omega) (by rw [hj]; simpa using ew) fin hs
  · have hj : (i + (its.toArray.size : Int)).toNat = j := by
      rw [seqIndex_neg (by omega) h4] at h1
      rw [List.size_toArray, ← hl]
      exact Option.some.inj h1
    exact subscriptTail_builtinR (x := w) pl.isList.typeIs slot_list_getitem.lookup
      (wpAny_getItem_list_neg (Q := fun r s' => r = w ∧ EP X pins σ Q r s') pl.isList (by omega) (by rw [List.size_toArray] <;> omega) (by omega) (by rw [hj]; simpa using ew) ⟨rfl, fin⟩) hs
theorem ix_tup : IxR X (rIxT X.K) := by
  intro value slice pins s σ H x y v u Q I rx ry h hs
  obtain ⟨p, xs, i, z, rfl, rfl, hq, he, q⟩ := h
  cases rx
  obtain ⟨t, rfl⟩ := ry
  obtain ⟨its, r, pl, hz⟩ := I.tuple hq
  obtain ⟨j, h1, h2, h3, h4, h5⟩ := atI_get he
  obtain ⟨w, ew, rw'⟩ := r.get h2
  have hl := r.length
  have hn := line63
  have fin : EP X pins σ Q w s := ⟨z, H, I, rw', q⟩
  exact subscriptTail_builtinR (x := w) pl.typeIs slot_tuple_getitem.lookup
    (getItem_tuple (j := j) (Q := fun r s' => r = w ∧ EP X pins σ Q r s') pl (by omega) (by omega) (by rw [List.size_toArray, ← hl]; exact h1) (by simpa using ew) ⟨rfl, fin⟩) hs
theorem mapSeq_set (its : List Value) (n j : Nat) (u : Value) : Obj.mapSeq (·.setIfInBounds j u) { cls := .type "list", data := .seq its.toArray n } = { cls := .type "list", data := .seq (its.set j u).toArray n } := by
  simp [Obj.mapSeq]
theorem Inv.lst {pins : List (Addr × Obj)} {σ : St} {H : Hp} {s : Shared} {p : Addr} {xs : List V} (I : Inv X pins σ H s) (h : H p = some (.lst xs)) :
    ∃ (its : List Value) (n : Nat), Vals xs its ∧ s.heap.get? p = some { cls := .type "list", data := .seq its.toArray n } ∧ xs.length ≤ sizeLine := by
  obtain ⟨z, its, n, r, e⟩ := I.hok p _ h
  exact ⟨its, n, r, e, z⟩
theorem Inv.lstUpd {pins : List (Addr × Obj)} {σ : St} {H : Hp} {s : Shared} {p : Addr} {xs ys : List V} {its its' : List Value} {n n' : Nat} {f : Obj → Obj} (I : Inv X pins σ H s) (h : H p = some (.lst xs))
    (ho : s.heap.get? p = some { cls := .type "list", data := .seq its.toArray n }) (hf : f { cls := .type "list", data := .seq its.toArray n } = { cls := .type "list", data := .seq its'.toArray n' }) (r : Vals ys its') (hz : ys.length ≤ sizeLine) (t : Nat) :
    Inv X pins σ (upd H p (.lst ys)) { s with heap := s.heap.update p f, toks := t } := by
  have e : (s.heap.update p f).get? p = some { cls := .type "list", data := .seq its'.toArray n' } := by
    rw [Heap.get?_update_self f ho (by rw [hf] <;> rfl), hf]
  refine I.write (x := p) (e := p) (by rw [h]; trivial) (.inl rfl) (fun b u hb q => (Heap.get?_update_other _ _ (Ne.symm hb)).trans q) ⟨_, e⟩ ?_
  exact ⟨hz, its', n', r, e⟩
def rSetL : V → V → V → Hp → (Hp → Prop) → Prop := fun o i v H Q => ∃ p xs k j, o = .ref p ∧ i = .int k ∧ H p = some (.lst xs) ∧ ixN xs.length k = some j ∧ Q (upd H p (.lst (xs.set j v)))
theorem set_list : PSet X rSetL := by
  intro pins s σ H o i v ov iv u Q I ro ri rv h
  obtain ⟨p, xs, k, j, rfl, rfl, hp, hj, q⟩ := h
  cases ro
  obtain ⟨t, rfl⟩ := ri
  obtain ⟨its, n, r, ho, hz⟩ := I.lst hp
  obtain ⟨h1, h2, h3, h4⟩ := ixN_seq hj
  have hl := r.length
  have hn := line63
  have I' : Inv X pins σ (upd H p (.lst (xs.set j v))) { s with heap := s.heap.update p (Obj.mapSeq (·.setIfInBounds j u)) } :=
    I.lstUpd hp ho (mapSeq_set its n j u) (r.set rv j) (by rw [List.length_set]; exact hz) s.toks
  by_cases h0 : 0 ≤ k
  · have hk : k.toNat = j := by
      rw [seqIndex_of h0 h4] at h1
      exact Option.some.inj h1
    exact PySem.W.ki_setAt ho h0 (by omega) (by rw [List.size_toArray, ← hl]; exact h4) (by rw [hk]; exact ⟨_, I', q⟩)
  · have hk : (k + (its.toArray.size : Int)).toNat = j := by
      rw [seqIndex_neg (by omega) h3] at h1
      rw [List.size_toArray, ← hl]
      exact Option.some.inj h1
    exact PySem.W.ki_setBack ho (by omega) (by rw [List.size_toArray, ← hl]; exact h3) (by omega) (by rw [hk]; exact ⟨_, I', q⟩)
theorem slice_bounds (lo hi : Option Int) (n : Nat) : (sliceBounds lo hi none n).1 = ((HT.sIx n 0 lo : Nat) : Int) ∧ (sliceBounds lo hi none n).2.1 = ((HT.sIx n n hi : Nat) : Int) ∧ (sliceBounds lo hi none n).2.2 = 1 := by
  refine ⟨?_, ?_, rfl⟩
  · cases lo with
    | none => simp [sliceBounds, HT.sIx]
    | some i =>
      simp only [sliceBounds, HT.sIx, Option.getD_none, show (1 : Int) > 0 by decide, if_true]
      by_cases h : i < 0
      · simp only [h, if_true] <;> omega
      · simp only [h, if_false] <;> omega
  · cases hi with
    | none => simp [sliceBounds, HT.sIx]
    | some i =>
      simp only [sliceBounds, HT.sIx, Option.getD_none, show (1 : Int) > 0 by decide, if_true]
      by_cases h : i < 0
      · simp only [h, if_true] <;> omega
      · simp only [h, if_false] <;> omega
theorem slicePick_cut (its : List Value) (lo hi : Option Int) : slicePick its.toArray lo hi none = ((its.drop (HT.sIx its.length 0 lo)).take (HT.sIx its.length its.length hi - HT.sIx its.length 0 lo)).toArray := by
  obtain ⟨h1, h2, h3⟩ := slice_bounds lo hi its.toArray.size
  unfold slicePick
  rw [h1, h2, h3]
  simp only [sliceRange_one, pick_run, List.size_toArray] <;> rfl
def rSlL (K : PySem.W.Frag) : V → Option Int → Option Int → Hp → VK → Prop := fun x lo hi H Q => ∃ a xs, x = .ref a ∧ SqL K H a xs ∧ ∀ p, H p = none → Q (.ref p) (upd H p (.lst (cutV xs lo hi)))
theorem sl_list : SlR X (rSlL X.K) := by
  intro pins s σ H x v vl vu lo hi sl Q I rx hs pl pu h
  obtain ⟨a, xs, rfl, hx, q⟩ := h
  cases rx
  obtain ⟨its, r, ht, hz⟩ := I.list hx
  have hlen := r.length
  refine ⟨"list", _, slot_list_getitem.lookup, ht.isList.typeIs, ?_⟩
  refine wpAny_getItem_list_slice ht.isList hs pl pu .none (by simp) ?_ (by rw [List.size_toArray] <;> omega)
  rw [slicePick_cut, ← hlen]
  refine ⟨.ref s.heap.objs.size, _, I.laid (t' := s.toks) (o := .lst (cutV xs lo hi)) (fun b ob q => Heap.get?_push_of_some _ q) (Nat.le_refl _) ?_, rfl, q _ (I.hok.fresh (Nat.le_refl _))⟩
  exact ⟨Nat.le_trans (cutV_length xs lo hi) hz, _, 0, (r.drop (HT.sIx xs.length 0 lo)).take (HT.sIx xs.length xs.length hi - HT.sIx xs.length 0 lo), Heap.get?_push_size _ rfl⟩
def flatV : V → Bool
  | .non => true
  | .bl _ => true
  | .int _ => true
  | .str _ => true
  | _ => false
def eqV : V → V → Bool
  | .non, .non => true
  | .bl a, .bl b => a == b
  | .bl a, .int b => (if a then 1 else 0) == b
  | .int a, .bl b => a == (if b then 1 else 0)
  | .int a, .int b => a == b
  | .str a, .str b => a == b
  | _, _ => false
theorem eqAt_V {A : Around} {s : Shared} {y x : V} {u v : Value} (ry : RelV y u) (rx : RelV x v) (fy : flatV y = true) (fx : flatV x = true) : SeqAt.EqAt A s u v (eqV y x) := by
  cases y with
  | non =>
    cases ry
    cases x with
    | non => cases rx; exact SeqAt.EqAt.same _
    | bl b => cases rx; exact SeqAt.EqAt.none_bool b
    | int b => obtain ⟨t, rfl⟩ := rx; exact SeqAt.EqAt.none_int b t
    | str b => obtain ⟨t, rfl⟩ := rx; exact SeqAt.EqAt.none_str b t
    | _ => exact absurd (show false = true from fx) Bool.false_ne_true
  | bl a =>
    cases ry
    cases x with
    | non => cases rx; exact SeqAt.EqAt.bool_none a
    | bl b => cases rx; exact SeqAt.EqAt.bool_bool a b
    | int b => obtain ⟨t, rfl⟩ := rx; exact SeqAt.EqAt.bool_int a b t
    | str b => obtain ⟨t, rfl⟩ := rx; exact SeqAt.EqAt.bool_str a b t
    | _ => exact absurd (show false = true from fx) Bool.false_ne_true
  | int a =>
    obtain ⟨t', rfl⟩ := ry
    cases x with
    | non => cases rx; exact SeqAt.EqAt.int_none a t'
    | bl b => cases rx; exact SeqAt.EqAt.int_bool a t' b
    | int b => obtain ⟨t, rfl⟩ := rx; exact SeqAt.EqAt.int_int a t' b t
    | str b => obtain ⟨t, rfl⟩ := rx; exact SeqAt.EqAt.int_str a t' b t
    | _ => exact absurd (show false = true from fx) Bool.false_ne_true
  | str a =>
    obtain ⟨t', rfl⟩ := ry
    cases x with
    | non => cases rx; exact SeqAt.EqAt.str_none a t'
    | bl b => cases rx; exact SeqAt.EqAt.str_bool a t' b
    | int b => obtain ⟨t, rfl⟩ := rx; exact SeqAt.EqAt.str_int a t' b t
    | str b => obtain ⟨t, rfl⟩ := rx; exact SeqAt.EqAt.str_str a t' b t
    | _ => exact absurd (show false = true from fx) Bool.false_ne_true
  | _ => exact absurd (show false = true from fy) Bool.false_ne_true
theorem call_len_seq : CallR X (.builtin "len") (fun xs H Q => ∃ p ys, xs = [.ref p] ∧ (SqL X.K H p ys ∨ SqT X.K H p ys) ∧ Q (.int ys.length) H) := by
  intro pins s σ H xs us Q I r h
  obtain ⟨p, ys, rfl, hq, q⟩ := h
  obtain ⟨u, rfl, rx⟩ := vals1 r
  cases rx
  have hn := line63
  rcases hq with hq | hq
  · obtain ⟨its, r', pl, hz⟩ := I.list hq
    have hlen := r'.length
    exact Calls.call_len_list pl.isList (by simp only [List.size_toArray] <;> omega) ⟨.int ys.length, H, I.tok _, ⟨s.toks + 1, by rw [List.size_toArray, hlen]⟩, q⟩
  · obtain ⟨its, r', pl, hz⟩ := I.tuple hq
    have hlen := r'.length
    exact len_tuple pl (by simp only [List.size_toArray] <;> omega) ⟨.int ys.length, H, I.tok _, ⟨s.toks + 1, by rw [List.size_toArray, hlen]⟩, q⟩
theorem call_list_of : CallR X (.type "list") (fun xs H Q => ∃ p ys, xs = [.ref p] ∧ (SqL X.K H p ys ∨ SqT X.K H p ys) ∧ ∀ l, H l = none → Q (.ref l) (upd H l (.lst ys))) := by
  intro pins s σ H xs us Q I r h
  obtain ⟨p, ys, rfl, hq, q⟩ := h
  obtain ⟨u, rfl, rx⟩ := vals1 r
  cases rx
  have fin : ∀ (its : List Value), Vals ys its → ys.length ≤ sizeLine → ∀ (h' : Heap) (c' : Nat), (∀ b o', s.heap.get? b = some o' → h'.get? b = some o') →
      h'.get? s.heap.objs.size = some { cls := .type "list", dict := none, data := .seq its.toArray c', slots := #[] } → EP X pins σ Q (.ref s.heap.objs.size) { s with heap := h' } := fun its r' hz h' c' kp e =>
    ⟨.ref s.heap.objs.size, _, I.laid (t' := s.toks) kp (Nat.le_refl _) (show ObjOk X.prog X.w _ h' _ (.lst ys) from ⟨hz, its, c', r', e⟩), rfl, q _ (I.hok.fresh (Nat.le_refl _))⟩
  rcases hq with hq | hq
  · obtain ⟨its, r', pl, hz⟩ := I.list hq
    have hlen := r'.length
    obtain ⟨o, ho, hc, n, hd⟩ := pl.isList
    exact call_list_seq p (.inl rfl) ho hc hd (fun h' c' kp e => fin its r' hz h' c' kp e) (by simp only [List.size_toArray] <;> omega)
  · obtain ⟨its, r', pl, hz⟩ := I.tuple hq
    have hlen := r'.length
    obtain ⟨o, ho, hc, n, hd⟩ := pl
    exact call_list_seq p (.inr rfl) ho hc hd (fun h' c' kp e => fin its r' hz h' c' kp e) (by simp only [List.size_toArray] <;> omega)
def tyV (K : PySem.W.Frag) (T : String) (x : V) (H : Hp) : Prop := match x with
  | .str _ => T = "str"
  | .int _ => T = "int"
  | .ref p => (T = "list" ∧ ∃ xs, SqL K H p xs) ∨ (T = "tuple" ∧ ∃ o, K.lookup p = some o ∧ o.cls = .type "tuple" ∧ o.dict = none) ∨
      (T = "dict" ∧ ((∃ kvs, H p = some (.dK kvs)) ∨ ∃ kvs, H p = some (.dT kvs))) ∨ (T = "set" ∧ ∃ S n, H p = some (.set S n))
  | _ => False
theorem tyV_is {pins : List (Addr × Obj)} {σ : St} {H : Hp} {s : Shared} {T : String} {x : V} {v : Value} (I : Inv X pins σ H s) (r : RelV x v) (ty : tyV X.K T x H) :
    s.TypeIs v T ∧ ∀ a, v = .ref a → ∃ ob, s.heap.get? a = some ob ∧ ob.dict = none := by
  cases x with
  | str z =>
    obtain ⟨t, rfl⟩ := r
    cases (show T = "str" from ty)
    exact ⟨typeIs_str s z t, fun _ e => nomatch e⟩
  | int i =>
    obtain ⟨t, rfl⟩ := r
    cases (show T = "int" from ty)
    exact ⟨typeIs_int s i t, fun _ e => nomatch e⟩
  | ref p =>
    cases r
    rcases ty with ⟨rfl, xs, hq⟩ | ⟨rfl, o, hk, hc, hd⟩ | ⟨rfl, hk⟩ | ⟨rfl, S, n, hk⟩
    · obtain ⟨its, _, pl, _⟩ := I.list hq
      refine ⟨pl.isList.typeIs, fun a e => ?_⟩
      cases e
      obtain ⟨o, n, e, c, hd, _⟩ := pl
      exact ⟨o, e, hd⟩
    · refine ⟨⟨o, I.kIn p o hk, hc⟩, fun a e => ?_⟩
      cases e
      exact ⟨o, I.kIn _ o hk, hd⟩
    · have z : ∃ o, s.heap.get? p = some o ∧ o.ExactDict := by
        rcases hk with ⟨kvs, hk⟩ | ⟨kvs, hk⟩
        · obtain ⟨_, _, _, _, o, _, _, e, ex, _⟩ := I.hok p _ hk
          exact ⟨o, e, ex⟩
        · obtain ⟨_, _, _, _, o, _, _, e, ex, _⟩ := I.hok p _ hk
          exact ⟨o, e, ex⟩
      obtain ⟨o, e, ex⟩ := z
      refine ⟨⟨o, e, ex.1⟩, fun a e2 => ?_⟩
      cases e2
      exact ⟨o, e, ex.2.1⟩
    · obtain ⟨o, _, _, _, e, ex, _⟩ := I.hok p _ hk
      refine ⟨⟨o, e, ex.1⟩, fun a e2 => ?_⟩
      cases e2
      exact ⟨o, e, ex.2.1⟩
  | _ => exact False.elim ty
def tBM (K : PySem.W.Frag) (T : String) (r : V → List V → Hp → VK → Prop) (to : TE) (t : TA) : TE := fun σ H Q => to σ H fun x H1 => tyV K T x H1 ∧ t σ H1 fun xs H2 => r x xs H2 Q
variable {o e : Expr} {es : List Expr} {to : TE} {t : TA} {name : Str} {apos cpos : Pos} {T id : String} {r : V → List V → Hp → VK → Prop}
theorem pe_bm (pa : PlainAttrs T) (slot : Slot T name id) (hty : typeOf (.builtin id) = pure (.type "method_descriptor")) (hm : MtR X id r) (ho : PE X o to) (ha : PA X (e :: es) t)
    (hbase : attributeBase o name X.env (eval o X.env) = eval o X.env := by rfl)
    (hfew : ((backTo cpos (starEach (e :: es) X.env)).all (fun x => !x.1) && (backToKw cpos (keywordEach [] X.env)).all (fun x => x.1.isSome)
      && decide ((e :: es).length + ([] : List Keyword).length + (if ([] : List Keyword).isEmpty then 0 else 1) < 30)) = true := by rfl)
    (hline : (apos.endLine == cpos.line) = true := by rfl) (hs : starEach (e :: es) X.env = (false, eval e X.env) :: starEach es X.env := by rfl) (hplain : (backTo cpos (starEach es X.env)).any (·.1) = false := by rfl) :
    PE X (.Call (.Attribute o name apos) (e :: es) [] cpos) (tBM X.K T r to t) := by
  intro pins s σ H Q I h
  refine wpAny_Call_method_late hbase hfew hline rfl (thn (ho pins s σ H _ I h) fun v s1 ⟨x, H1, I1, r1, ty, q1⟩ => ?_)
  obtain ⟨h1, h2⟩ := tyV_is I1 r1 ty
  refine ⟨T, id, pa, slot, hty, h1, h2, ?_⟩
  have hA := ha cpos pins s1 σ H1 _ I1 q1
  rw [hs] at hA ⊢
  refine Calls.callWith_builtin (by show (false || (backTo cpos (starEach es X.env)).any (·.1)) = false; rw [hplain] <;> rfl) (Calls.evalArgs_plain ?_)
  exact thn hA fun us s2 ⟨vs, H2, I2, r2, q2⟩ => hm pins s2 σ H2 x vs v us Q I2 r1 r2 q2
end
end L2
namespace L2
open PySem PySem.Spec PyProof.Rows
def MtM (X : Cx) (id : String) (r : V → List V → Hp → VK → Prop) : Prop :=
  ∀ (pins : List (Addr × Obj)) (s : Shared) (σ : St) (H : Hp) (x : V) (xs : List V) (v : Value) (us : List Value) (Q : VK), Inv X pins σ H s → RelV x v → Vals xs us → r x xs H Q →
    wpAny (model X.prog X.w) X.A (call (.builtin id) (v :: us)) (EP X pins σ Q) X.xe s
theorem Vals.one : ∀ {x : V} {us : List Value}, Vals [x] us → ∃ u, us = [u] ∧ RelV x u
  | _, _, .cons r .nil => ⟨_, rfl, r⟩
theorem Vals.eraseIdx : ∀ {xs : List V} {us : List Value} (i : Nat), Vals xs us → Vals (xs.eraseIdx i) (us.eraseIdx i)
  | _, _, _, .nil => .nil
  | _, _, 0, .cons _ t => t
  | _, _, i + 1, .cons r t => .cons r (Vals.eraseIdx i t)
theorem len_erase {α : Type} : ∀ (l : List α) (i : Nat), (l.eraseIdx i).length ≤ l.length
  | [], _ => Nat.le_refl _
  | _ :: _, 0 => Nat.le_succ _
  | _ :: r, i + 1 => Nat.succ_le_succ (len_erase r i)
section
variable {X : Cx} {pins : List (Addr × Obj)} {σ : St} {H : Hp} {s : Shared} {l b : Addr} {xs ys zs : List V}
theorem Inv.lset {its its' : List Value} {n : Nat} {f : Array Value → Array Value} {t' : Nat} (I : Inv X pins σ H s) (hH : H l = some (.lst xs))
    (e : s.heap.get? l = some { cls := .type "list", data := .seq its.toArray n }) (hf : f its.toArray = its'.toArray) (hv : Vals ys its') (hz : ys.length ≤ sizeLine) :
    Inv X pins σ (upd H l (.lst ys)) { s with heap := s.heap.update l (Obj.mapSeq f), toks := t' } := by
  have q := PySem.IsL.update e f
  rw [hf] at q
  refine I.write (x := l) (e := l) (by rw [hH]; exact trivial) (.inl rfl) (fun b' u hb hu => (Heap.get?_update_other s.heap (Obj.mapSeq f) (Ne.symm hb)).trans hu) ⟨_, q⟩ ?_
  exact ⟨hz, its', _, hv, q⟩
theorem Inv.lnew {its : List Value} {t' : Nat} (I : Inv X pins σ H s) (hv : Vals ys its) (hz : ys.length ≤ sizeLine) :
    Inv X pins σ (upd H s.heap.objs.size (.lst ys)) { s with heap := s.heap.push { cls := .type "list", data := .seq its.toArray }, toks := t' } :=
  I.laid (fun _ _ q => Heap.get?_push_of_some _ q) (Nat.le_refl _) ⟨hz, its, 0, hv, Heap.get?_push_size _ rfl⟩
theorem Inv.fresh (I : Inv X pins σ H s) : H s.heap.objs.size = none := I.hok.fresh (Nat.le_refl _)
theorem Inv.lstM (I : Inv X pins σ H s) (hH : H l = some (.lst xs)) : xs.length ≤ sizeLine ∧ ∃ (its : List Value) (n : Nat), Vals xs its ∧ xs.length = its.length ∧ s.heap.get? l = some { cls := .type "list", data := .seq its.toArray n } := by
  obtain ⟨z, its, n, r, e⟩ := I.hok l _ hH
  exact ⟨z, its, n, r, r.length, e⟩
end
section
variable {X : Cx}
def rAppend : V → List V → Hp → VK → Prop := fun x vs H Q => ∃ l xs y, x = .ref l ∧ vs = [y] ∧ H l = some (.lst xs) ∧ xs.length < sizeLine ∧ Q .non (upd H l (.lst (xs ++ [y])))
theorem mt_append : MtM X "list.append" rAppend := by
  intro pins s σ H x vs v us Q I rx rv h
  obtain ⟨l, xs, y, rfl, rfl, hH, hz, q⟩ := h
  cases rx
  obtain ⟨u, rfl, ru⟩ := rv.one
  obtain ⟨z, its, n, r, hl, e⟩ := I.lstM hH
  refine call_meets F.slot_list_append ⟨_, e, rfl⟩ F.entry_list_append (F.args_list_append_2 _ _) (PySem.list_append l its.toArray n u (by rw [List.size_toArray]; omega)) ⟨e, ?_⟩
  refine ⟨.non, _, I.lset (its' := its ++ [u]) hH e (by simp) (r.append (.cons ru .nil)) ?_, rfl, q⟩
  rw [List.length_append, List.length_singleton]
  omega
def rPopAt : V → List V → Hp → VK → Prop := fun x vs H Q => ∃ l xs i k y, x = .ref l ∧ vs = [.int i] ∧ H l = some (.lst xs) ∧ -(2 ^ 63) ≤ i ∧ i < 2 ^ 63 ∧ seqIndex? i xs.length = some k ∧ xs[k]? = some y ∧ Q y (upd H l (.lst (xs.eraseIdx k)))
theorem mt_popAt : MtM X "list.pop" rPopAt := by
  intro pins s σ H x vs v us Q I rx rv h
  obtain ⟨l, xs, i, k, y, rfl, rfl, hH, h1, h2, hk, hy, q⟩ := h
  cases rx
  obtain ⟨u, rfl, ru⟩ := rv.one
  obtain ⟨t, rfl⟩ := ru
  obtain ⟨z, its, n, r, hl, e⟩ := I.lstM hH
  obtain ⟨w, hw, rw'⟩ := r.get hy
  refine call_meets F.slot_list_pop ⟨_, e, rfl⟩ F.entry_list_pop (F.args_list_pop_2 _ _)
    (MeetsSeq.list_pop_at l its.toArray n i t k w (fitsIndex_both h1 h2) (by rw [List.size_toArray, ← hl]; exact hk) (by rw [← Array.getElem?_toList]; exact hw) (by rw [List.size_toArray]; omega)) ⟨e, ?_⟩
  refine ⟨y, _, I.lset (its' := its.eraseIdx k) hH e ?_ (r.eraseIdx k) ?_, rw', q⟩
  · show its.toArray.eraseIdxIfInBounds k = (its.eraseIdx k).toArray
    rw [List.eraseIdxIfInBounds_toArray]
  · have := len_erase xs k
    omega
end
section
variable {prog : Program} {w : World} {A : Around} {E : Value → Shared → Prop} {s : Shared}
end
section
variable {X : Cx}
end
end L2
namespace Att
open PySem PySem.W PySem.Calls PyProof.Rows
theorem ints_of_wellAll {P : Params} {h : Heap} : ∀ (ns : List Int) (vs : List Value), WellAll P h vs (ns.map WData.int) → IntsAre vs ns := by
  intro ns
  induction ns with
  | nil =>
    intro vs w
    rw [List.map_nil] at w
    cases w
    exact .nil
  | cons n ns ih =>
    intro vs w
    rw [List.map_cons] at w
    cases w with
    | cons a b =>
      cases a
      exact .cons _ _ (ih _ b)
theorem script_of {l : OpenLaw} {n : Nat} (hn : l.most = some n) {P : Params} {h : Heap} {args : List WData} {vals : List Value}
    (hpre : l.row.toRowW.claim.pre args = true) (hwl : WellAll P h vals args) :
    ∃ a vs ns, vals = [Value.ref a] ∧ args = [WData.list (ns.map WData.int)] ∧ h.get? a = some { cls := .type "list", data := .seq vs.toArray } ∧ IntsAre vs ns ∧ ns.length ≤ n := by
  have hsh : WShape.hasAll [] args [.list .int] = true := (pre_splitW hpre).1
  have hc : l.pre.holds [] { args := args } = true := (pre_splitW hpre).2
  obtain ⟨d, r, rfl, h1, h2⟩ := hasAllW_cons hsh
  obtain rfl := hasAllW_nil h2
  obtain ⟨xs, rfl, h3⟩ := hasW_list h1
  obtain ⟨ns, rfl⟩ := items_int h3
  have hlen : ns.length ≤ n := by
    unfold OpenLaw.pre at hc
    have h4 : (WTm.not (.lt (.lit (.int (n : Int))) (.len (.arg 0)))).holds [] { args := [.list (ns.map .int)] } = true := by
      have h4 := (holds_andW hc).1
      rw [hn] at h4
      exact h4
    have h5 := condW_of h4 (w_not (w_lt w_lit (w_len_list (w_arg rfl))))
    rw [List.length_map] at h5
    refine Nat.le_of_not_lt fun q => ?_
    have q' : (n : Int) < ((ns.length : Nat) : Int) := by omega
    first
      | (rw [decide_eq_true q'] at h5; exact absurd h5 (by decide))
      | (simp at h5; omega)
  cases hwl with
  | cons w1 w2 =>
    cases w2
    cases w1 with
    | list ho hall => exact ⟨_, _, ns, rfl, rfl, ho, ints_of_wellAll ns _ hall, hlen⟩
theorem post_true (l : OpenLaw) (args : List WData) : l.row.toRowW.claim.post args (.bool true) args = true :=
  postW_of (r := l.row.toRowW) (X := (true == true))
    (show WShape.has [] (.bool true) .bool = true by first | rfl | decide | simp [WShape.has, WShape.arms, WShape.armsAll])
    (show (WTm.eq .res (.lit (.bool true))).value [] { args := args, res := some (.bool true), after := args } = some (.bool (true == true)) from w_eq_bool (w_res rfl) w_lit) rfl
theorem attach_call {l : OpenLaw} {n : Nat} {q : Program} {loose : List Str} {XP : (Str → Option Value) → Heap → Prop} {YP : World → Heap → Prop} {d : DefRec}
    (hn : l.most = some n) (hdf : d.params.defaults = [])
    (call : ∀ (w : World) (s₀ s₁ : Shared) (mg mb : Str → Option Value) (fa : Addr) (o : Obj) (pm cd doc : Value) (a : Addr) (vs : List Value) (ns : List Int),
      Ground q loose [] XP w s₀ mg mb s₁.heap → YP w s₁.heap →
      s₁.heap.get? fa = some o → o.data = .func (docDef d.name d.params d.body d.scope pm cd doc) → s₁.heap.CodeRec cd d.name → mg d.name = some (.ref fa) →
      s₁.heap.get? a = some { cls := .type "list", data := .seq vs.toArray } → IntsAre vs ns → ns.length ≤ n → s₁.gens = #[] →
      codeAny (model l.prog w) callerA (.call (.ref fa) ⟨[.ref a], []⟩) (fun r s' => r = .ok (.ret (.bool true)) ∧ OldK s₁.heap s'.heap ∧ s'.os = s₁.os ∧ AllBare s'.gens) s₁) :
    WalkO q loose XP YP l.row.toRowW d [] (fun f vs => PySem.call f vs) := by
  intro w s₀ s₁ mg mb G Y fa o pm cd doc dV kV ho hd hcd hD hmg hg args vals as hpre hlay hrd hwl hlo
  obtain rfl : dV = .none := Dflts.none hD hdf
  obtain rfl : kV = .none := Dflts.noKw hD
  obtain ⟨a, vs, ns, rfl, rfl, hobj, hints, hlen⟩ := script_of hn hpre hwl
  refine enter_call (codeAny_mono (call w s₀ s₁ mg mb fa o pm cd doc a vs ns G Y ho (fd_plain hd) hcd hmg hobj hints hlen hg) fun r s' hq => ?_)
  obtain ⟨rfl, h2, h3, h4⟩ := hq
  exact ⟨.inl ⟨.bool true, .bool true, [], rfl, fun _ => rfl, .bool true, post_true l _, fun _ => ⟨List.Pairwise.nil, fun _ hm => (nomatch hm)⟩⟩, h2, h3, h4⟩
section
variable {prog : Program} {w : World} {A : Around} {E : Value → Shared → Prop} {s : Shared} {K : Frag}
end
end Att
namespace L2
open PySem PySem.Spec PyProof.Rows
theorem vals_ints : ∀ {vs : List Value} {ns : List Int}, IntsAre vs ns → Vals (ns.map V.int) vs
  | _, _, .nil => .nil
  | _, _, .cons n t h => .cons ⟨t, rfl⟩ (vals_ints h)
def Only (H : Hp) : Prop := ∀ b, H b = none ∨ ∃ o xs, H b = some (.frz o (.lst xs))
theorem law_call {P : Program} {w : World} {K : PySem.W.Frag} {mg mb : Str → Option Value} {CX : CXT} {k : Nat} {fa a : Addr} {fd : FuncData} {x : Str} {sp : Sp} {s₁ : Shared} {vs : List Value} {ns : List Int}
    (KX : K.In s₁.heap) (hns : s₁.heap.Ns mainGlobals mg) (hb : s₁.heap.Ns builtinsNs mb) (hbb : ∀ x : Str, x ≠ "__name__" → mb x = bootBuiltins x) (hlim : s₁.heap.NoLimit) (hg : s₁.gens = #[])
    (ha : s₁.heap.get? a = some { cls := .type "list", data := .seq vs.toArray }) (hi : IntsAre vs ns) (hl : ns.length ≤ sizeLine) (hr : Room k callerA)
    (F : ∀ base : Heap, K.In base → base.Ns mainGlobals mg → FnOk P w K mg base CX k fa fd [x] sp) (hbind : ∀ (s : Shared) (u : Value), BindsTo s fd ⟨[u], []⟩ [(x, u)])
    (hsp : ∀ H : Hp, Only H → SqL K H a (ns.map V.int) → sp [.ref a] H (fun v _ => v = .bl true) fun _ _ _ => False)
    (hCX : ∀ H e s', CX [] H s₁ (fun _ _ _ => False) e s' → False) :
    codeAny (model P w) callerA (.call (.ref fa) ⟨[.ref a], []⟩) (fun r s' => r = .ok (.ret (.bool true)) ∧ OldK s₁.heap s'.heap ∧ s'.os = s₁.os ∧ AllBare s'.gens) s₁ := by
  have rv := vals_ints hi
  have lenV := hi.length
  have core : ∀ H : Hp, Only H → SqL K H a (ns.map V.int) → HOk P w H s₁.heap → (∀ b, H b ≠ none → b = a) → (H a ≠ none → K.lookup a = none) →
      codeAny (model P w) callerA (.call (.ref fa) ⟨[.ref a], []⟩) (fun r s' => r = .ok (.ret (.bool true)) ∧ OldK s₁.heap s'.heap ∧ s'.os = s₁.os ∧ AllBare s'.gens) s₁ := by
    intro H hO hS hok hA hK
    have base_of : ∀ {b : Addr} {o : Obj}, s₁.heap.get? b = some o → H b = none → (hidT s₁.heap H).get? b = some o := fun e n => hidT_get e n
    have noA : ∀ {b : Addr} {o : Obj} {es : Array DictEntry} {ep : Nat}, s₁.heap.get? b = some o → o.data = .dict es ep → H b = none := fun {b o es ep} e d => by
      cases q : H b with
      | none => rfl
      | some u =>
        have e' : b = a := hA b (by rw [q]; simp)
        subst e'
        rw [ha] at e; cases e
        have d' : Data.seq vs.toArray _ = Data.dict es ep := d
        cases d'
    have nsK : ∀ {b : Addr} {m : Str → Option Value}, s₁.heap.Ns b m → (hidT s₁.heap H).Ns b m := fun {b m} ⟨o, es, ep, e, d, r⟩ => ⟨o, es, ep, base_of e (noA e d), d, r⟩
    have hKb : K.In (hidT s₁.heap H) := fun b o e => base_of (KX b o e) (by
      cases q : H b with
      | none => rfl
      | some u =>
        have e' : b = a := hA b (by rw [q]; simp)
        subst e'
        rw [hK (by rw [q]; simp)] at e; cases e)
    have hM : Mod K mg (hidT s₁.heap H) := ⟨hKb, nsK hns, ⟨mb, nsK hb, hbb⟩, let ⟨mc, h1, h2⟩ := hlim; ⟨mc, nsK h1, h2⟩⟩
    have e0 : Env0 P w K mg (hidT s₁.heap H) callerA [] s₁ H := ⟨rfl, hM, fun b o e => of_hidT e, Nat.le_of_eq (hidT_size _ _), trivial, fun b hb => absurd (show b ∈ ([] : List Addr) from hb) (by simp), hok, .of_eq hg⟩
    refine codeAny_mono ((F _ hKb (nsK hns)).run callerA [] s₁ H ⟨[.ref a], []⟩ [.ref a] [.ref a] _ _ hr e0 (hbind s₁ (.ref a)) (.cons rfl .nil) (hsp H hO hS)) fun r s' h => ?_
    cases r with
    | error e => exact (hCX H e s' h).elim
    | ok fl =>
      cases fl with
      | next => exact False.elim h
      | brk => exact False.elim h
      | cont => exact False.elim h
      | ret u =>
        obtain ⟨v, H', os, bare, un, hok', r', q⟩ := h
        have q' : v = .bl true := q
        subst q'
        obtain rfl : u = Value.bool true := r'
        refine ⟨rfl, OldK.of_keep fun b o e => ?_, os, bare⟩
        cases q : H b with
        | none => exact un.keep b o e q (by intro z; exact absurd (show b ∈ ([] : List Addr) from z) (by simp)) (by simp)
        | some u =>
          rcases hO b with z | ⟨ob, xs, z⟩
          · rw [q] at z; cases z
          · have z2 := un.frzs b ob _ z
            obtain ⟨e1, _⟩ := hok b _ z
            obtain ⟨e2, _⟩ := hok' b _ z2
            rw [e] at e1; cases e1
            exact e2
  cases hk : K.lookup a with
  | some o =>
    have e := KX a o hk
    rw [ha] at e
    cases e
    refine core (fun _ => none) (fun _ => .inl rfl) (.inr ⟨_, vs.toArray, _, hk, rfl, rfl, rfl, by rw [List.size_toArray, lenV]; exact hl, by simpa using rv⟩) (fun b u z => by have z' : (none : Option HO) = some u := z; cases z') (fun b z => absurd rfl z) fun z => absurd rfl z
  | none =>
    refine core (fun b => if b = a then some (.frz { cls := .type "list", data := .seq vs.toArray } (.lst (ns.map V.int))) else none) (fun b => ?_) (.inl (.inr ⟨{ cls := .type "list", data := .seq vs.toArray }, if_pos rfl⟩)) (fun b u z => ?_) (fun b z => ?_) fun _ => hk
    · by_cases hb : b = a
      · exact .inr ⟨_, _, if_pos hb⟩
      · exact .inl (if_neg hb)
    · by_cases hb : b = a
      · have z' := (if_pos hb).symm.trans z
        cases z'
        subst hb
        exact ⟨ha, by rw [List.length_map]; exact hl, vs, _, rv, ha⟩
      · have z' := (if_neg hb).symm.trans z
        cases z'
    · by_cases hb : b = a
      · exact hb
      · exact absurd (if_neg hb) z
end L2
namespace L2
open PySem PySem.Spec PyProof.Rows
theorem walk_of {l : PySem.W.OpenLaw} {n k : Nat} {q : Program} {loose : List Str} {XP : (Str → Option Value) → Heap → Prop} {YP : World → Heap → Prop} {d : DefRec} {K : Params → PySem.W.Frag} {CX : World → CXT} {sp : World → Sp} {x : Str}
    (hn : l.most = some n) (hn2 : n ≤ sizeLine) (hdf : d.params.defaults = []) (hr : Room k callerA)
    (hY : ∀ (w : World) (h : Heap), YP w h → (K w.params).In h)
    (F : ∀ (w : World) (mg : Str → Option Value) (fa : Addr) (h : Heap), (K w.params).In h → h.Ns mainGlobals mg → mg d.name = some (.ref fa) →
      ∃ fd : FuncData, (∀ (s : Shared) (u : Value), BindsTo s fd ⟨[u], []⟩ [(x, u)]) ∧
        ∀ base : Heap, (K w.params).In base → base.Ns mainGlobals mg → FnOk l.prog w (K w.params) mg base (CX w) k fa fd [x] (sp w))
    (hsp : ∀ (w : World) (H : Hp) (a : Addr) (ns : List Int), ns.length ≤ n → Only H → SqL (K w.params) H a (ns.map V.int) → sp w [.ref a] H (fun v _ => v = .bl true) fun _ _ _ => False)
    (hCX : ∀ (w : World) (H : Hp) (s : Shared) (e : Value) (s' : Shared), CX w [] H s (fun _ _ _ => False) e s' → False) :
    PySem.W.WalkO q loose XP YP l.row.toRowW d [] (fun f vs => PySem.call f vs) := by
  refine Att.attach_call hn hdf fun w s₀ s₁ mg mb fa o pm cd doc a vs ns G Y ho hd hcd hmg hobj hints hlen hg => ?_
  have KX := hY w _ Y
  obtain ⟨fd, hb, hF⟩ := F w mg fa _ KX G.T.g hmg
  exact law_call KX G.T.g G.T.b G.T.builtins G.T.nolimit hg hobj hints (Nat.le_trans hlen hn2) hr hF hb (fun H hO hS => hsp w H a ns hlen hO hS) fun H e s' => hCX w H s₁ e s'
end L2
namespace L2
open PySem PySem.Spec PyProof.Rows
def defArgs (s : Stmt) : Arguments := match s with
  | .FunctionDef _ a _ _ _ _ _ _ _ _ => a
  | _ => { posonlyargs := [], args := [], vararg := none, kwonlyargs := [], kw_defaults := [], kwarg := none, defaults := [] }
def defBody (s : Stmt) : List Stmt := match s with
  | .FunctionDef _ _ b _ _ _ _ _ _ _ => b
  | _ => []
def defScope (s : Stmt) : Scope := match s with
  | .FunctionDef _ _ _ _ _ _ sc _ _ _ => sc
  | _ => { kind := .function, names := [], isGenerator := false, isCoroutine := false }
abbrev CX0 : CXT := fun _ _ _ _ _ _ => False
abbrev E0 : XK := fun _ _ _ => False
theorem pass0 {X : Cx} : Passes CX0 X E0 := fun _ _ _ _ _ _ _ h => h.elim
structure Fun (K : PySem.W.Frag) (x qual : Str) (st : Stmt) (f : Addr) (fd : FuncData) : Prop where
  ex : ∃ (oc : Value) (od : Option Addr) (kV doc pm : Value) (an : Option Addr) (cdv ct : Value) (osl : Array (Option Value)),
    fd = PySem.W.fnOf x qual (defArgs st) (defBody st) (defScope st) .none kV doc pm an cdv ct ∧ K.lookup f = some ⟨oc, od, .func fd, osl⟩ ∧ PySem.W.codeIn K cdv qual = true
  kp : PySem.W.keepIn K (.ref f) = true
section
variable {P : Program} {w : World} {K : PySem.W.Frag} {mg : Str → Option Value} {base : Heap}
theorem Fun.binds {x qual : Str} {st : Stmt} {f : Addr} {fd : FuncData} {ps : List Str} (F : Fun K x qual st f fd)
    (h : ∀ (kV doc pm : Value) (an : Option Addr) (cdv ct : Value) (us : List Value), us.length = ps.length → bindArgs (PySem.W.fnOf x qual (defArgs st) (defBody st) (defScope st) .none kV doc pm an cdv ct) ⟨us, []⟩ = pure (ps.zip us)) : Binds K fd ps [] := by
  obtain ⟨oc, od, kV, doc, pm, an, cdv, ct, osl, rfl, lk, hcd⟩ := F.ex
  exact .all (h kV doc pm an cdv ct)
theorem fun_mk {x qual : Str} {st : Stmt} {f : Addr} {oc : Value} {od an : Option Addr} {osl : Array (Option Value)} {kV doc pm cdv ct : Value} (l : K.lookup f = some ⟨oc, od, .func (PySem.W.fnOf x qual (defArgs st) (defBody st) (defScope st) .none kV doc pm an cdv ct), osl⟩)
    (c : PySem.W.codeIn K cdv qual = true) (k : PySem.W.keepIn K (.ref f) = true) : Fun K x qual st f (PySem.W.fnOf x qual (defArgs st) (defBody st) (defScope st) .none kV doc pm an cdv ct) := ⟨⟨oc, od, kV, doc, pm, an, cdv, ct, osl, rfl, l, c⟩, k⟩
end
section
variable {X : Cx}
theorem pv (i : Nat) {x : Str} {pos : Pos} (hN : X.N[i]? = some x := by rfl) (hv : Vis X.env.scope x := by first | exact Or.inl rfl | exact Or.inr (Or.inl rfl) | exact Or.inr (Or.inr rfl)) (hd : (x == ("__debug__" : Str)) = false := by decide)
    (hcd : (x == ("__classdict__" : Str)) = false := by decide) : PE X (.Name x pos) (tVar i) := pe_var hN hv hd hcd
end
theorem iteF {A B : Prop} (h : B) : if false = true then A else B := by
  rw [if_neg Bool.false_ne_true]
  exact h
theorem iteT {A B : Prop} (h : A) : if true = true then A else B := by
  rw [if_pos rfl]
  exact h
def Same (H H' : Hp) : Prop := ∀ b o, H b = some o → H' b = some o
theorem Same.refl (H : Hp) : Same H H := fun _ _ h => h
theorem Same.trans {H H1 H2 : Hp} (a : Same H H1) (b : Same H1 H2) : Same H H2 := fun c o h => b c o (a c o h)
theorem Same.free {H H' : Hp} (e : Same H H') {l : Addr} (h : H' l = Option.none) : H l = Option.none := by
  cases q : H l with
  | none => rfl
  | some o =>
    rw [e l o q] at h
    cases h
theorem Same.seq {K : PySem.W.Frag} {H H' : Hp} {a : Addr} {xs : List V} (e : Same H H') (h : SqL K H a xs) : SqL K H' a xs := by
  rcases h with (h | ⟨o, h⟩) | h
  · exact .inl (.inl (e _ _ h))
  · exact .inl (.inr ⟨o, e _ _ h⟩)
  · exact .inr h
end L2
namespace L2
open PySem PySem.Spec PyProof.Rows
abbrev NoX : Value → Shared → Prop := fun _ _ => False
theorem noX {α : Type} {M : Model} {A : Around} {m : Sem α} {Q : α → Shared → Prop} {E : Value → Shared → Prop} {s : Shared} (h : wpAny M A m Q NoX s) : wpAny M A m Q E s :=
  wpAny_mono h (fun _ _ q => q) fun _ _ z => z.elim
abbrev lcTests (ifs : List Expr) (env : Env) : Sem Bool :=
  forIn ifs true fun c r => if r = true then do let ok ← isTrue c env (eval c env); pure (ForInStep.yield ok) else pure (ForInStep.yield r)
theorem lcLoop {P : Program} {w : World} {A : Around} {R : Result → Shared → Prop} {s : Shared} {elt tg iter : Expr} {ifs : List Expr} {sc : Scope} {pos : Pos} {it acc : Value} {env : Env} (I : Nat → Shared → Prop)
    (turn : ∀ n s, I n s → wpAny (model P w) A (pyNext it) (fun r s1 => match r with
      | none => R (.ok .next) s1
      | some v => wpAny (model P w) A (letOwnedTupleGo tg it v) (fun _ s2 => wpAny (model P w) A (assign tg env v) (fun _ s3 =>
          wpAny (model P w) A (lcTests ifs env) (fun ok s4 => if ok = true then wpAny (model P w) A (eval elt env) (fun x s5 =>
              wpAny (model P w) A (call (.builtin "list.append") [acc, x]) (fun _ s6 => ∃ m, m < n ∧ I m s6) NoX s5) NoX s4
            else ∃ m, m < n ∧ I m s4) NoX s3) NoX s2) NoX s1) NoX s)
    (n : Nat) (h : I n s) : codeAny (model P w) A (.compLoop (.ListComp elt [⟨tg, iter, ifs, 0⟩] sc pos) 0 it acc env) R s := by
  refine codeAny_loop rfl I (fun n s hI => ?_) n h
  show wpAny (model P w) A ((compTurn (.ListComp elt [⟨tg, iter, ifs, 0⟩] sc pos) 0 it acc env).onRaise (fun x => do noteFrame x env; theTreesLotGoes x)) _ _ s
  refine wpAny_noted (noX ?_)
  rw [compTurn_list]
  refine wpAny_bind (wpAny_standAt (wpAny_bind (thn (turn n s hI) fun r s1 h1 => ?_)))
  cases r with
  | none => exact wpAny_pure h1
  | some v =>
    refine wpAny_bind (thn h1 fun _ s2 h2 => wpAny_bind (thn h2 fun _ s3 h3 => wpAny_bind (thn h3 fun ok s4 h4 => ?_)))
    cases ok with
    | false => exact wpAny_pure ⟨rfl, h4⟩
    | true => exact wpAny_bind (wpAny_bind (thn h4 fun x s5 h5 => wpAny_bind (thn h5 fun _ s6 h6 => wpAny_pure (wpAny_pure ⟨rfl, h6⟩))))
theorem cf_some : ∀ (names : List (Str × NameKind)) (n : Nat) (acc : List (Str × Addr)) (y : Str), (∃ c, acc.lookup y = some c) → ∃ c, (cellsFrom n names acc).lookup y = some c
  | [], _, _, _, h => h
  | (name, kind) :: r, n, acc, y, ⟨c, h⟩ => by
    unfold cellsFrom
    split
    · refine cf_some r _ _ y ?_
      rw [List.lookup_cons]
      split
      · exact ⟨_, rfl⟩
      · exact ⟨c, h⟩
    · exact cf_some r _ _ y ⟨c, h⟩
theorem cf_has : ∀ (names : List (Str × NameKind)) (n : Nat) (acc : List (Str × Addr)) (y : Str), (y, NameKind.cell) ∈ names → ∃ c, (cellsFrom n names acc).lookup y = some c
  | [], _, _, _, h => nomatch h
  | (name, kind) :: r, n, acc, y, h => by
    unfold cellsFrom
    rcases List.mem_cons.mp h with e | h
    · cases e
      rw [if_pos (by decide)]
      exact cf_some r _ _ _ ⟨n, by rw [List.lookup_cons_self]⟩
    · split
      · exact cf_has r _ _ y h
      · exact cf_has r _ _ y h
theorem cf_lookup : ∀ (names : List (Str × NameKind)) (n : Nat) (acc : List (Str × Addr)) (y : Str) (c : Addr), (cellsFrom n names acc).lookup y = some c → acc.lookup y = some c ∨ (n ≤ c ∧ (y, NameKind.cell) ∈ names)
  | [], _, _, _, _, h => .inl h
  | (name, kind) :: r, n, acc, y, c, h => by
    unfold cellsFrom at h
    split at h
    · rename_i hk
      rcases cf_lookup r _ _ y c h with q | ⟨q1, q2⟩
      · rw [List.lookup_cons] at q
        split at q
        · rename_i hy
          cases q
          rw [beq_iff_eq.mp hy, ← beq_iff_eq.mp hk]
          exact .inr ⟨Nat.le_refl _, .head _⟩
        · exact .inl q
      · exact .inr ⟨Nat.le_of_succ_le q1, .tail _ q2⟩
    · rcases cf_lookup r _ _ y c h with q | ⟨q1, q2⟩
      · exact .inl q
      · exact .inr ⟨q1, .tail _ q2⟩
theorem cf_old : ∀ (names : List (Str × NameKind)) (n : Nat) (acc : List (Str × Addr)) (y : Str), (y, NameKind.cell) ∉ names → (cellsFrom n names acc).lookup y = acc.lookup y
  | [], _, _, _, _ => rfl
  | (name, kind) :: r, n, acc, y, h => by
    unfold cellsFrom
    have hr : (y, NameKind.cell) ∉ r := fun z => h (.tail _ z)
    split
    · rename_i hk
      rw [cf_old r _ _ y hr, List.lookup_cons]
      split
      · rename_i hy
        exact absurd (show (y, NameKind.cell) ∈ (name, kind) :: r by rw [beq_iff_eq.mp hy, ← beq_iff_eq.mp hk]; exact .head _) h
      · rfl
    · exact cf_old r _ _ y hr
theorem cf_inj : ∀ (names : List (Str × NameKind)) (n : Nat) (acc : List (Str × Addr)), (∀ y c, acc.lookup y = some c → c < n) → (∀ y z c, acc.lookup y = some c → acc.lookup z = some c → y = z) →
    ∀ y z c, (cellsFrom n names acc).lookup y = some c → (cellsFrom n names acc).lookup z = some c → y = z
  | [], _, _, _, h => h
  | (name, kind) :: r, n, acc, h1, h2 => by
    unfold cellsFrom
    split
    · refine cf_inj r _ _ (fun y c e => ?_) fun y z c e e' => ?_
      · rw [List.lookup_cons] at e
        split at e
        · cases e; exact Nat.lt_succ_self _
        · exact Nat.lt_succ_of_lt (h1 y c e)
      · rw [List.lookup_cons] at e e'
        split at e
        · rename_i hy
          cases e
          split at e'
          · rename_i hz
            rw [beq_iff_eq.mp hy, beq_iff_eq.mp hz]
          · exact absurd (h1 z _ e') (Nat.lt_irrefl _)
        · split at e'
          · cases e'
            exact absurd (h1 y _ e) (Nat.lt_irrefl _)
          · exact h2 y z c e e'
    · exact cf_inj r _ _ h1 h2
theorem cf_cell : ∀ (names : List (Str × NameKind)) (h : Heap) (acc : List (Str × Addr)) (y : Str) (c : Addr), (cellsFrom h.objs.size names acc).lookup y = some c → acc.lookup y = some c ∨ (pushCells h names).IsCell c none
  | [], _, _, _, _, e => .inl e
  | (name, kind) :: r, h, acc, y, c, e => by
    unfold cellsFrom at e
    unfold pushCells
    split
    · rename_i hk
      rw [if_pos hk] at e
      rw [show h.objs.size + 1 = (h.push { cls := .type "cell", data := .cell none }).objs.size from (Heap.size_push ..).symm] at e
      rcases cf_cell r _ _ y c e with q | q
      · rw [List.lookup_cons] at q
        split at q
        · cases q
          exact .inr (Heap.IsCell.keeps ⟨_, Heap.get?_push_size _ rfl, rfl⟩ (pushCells_keeps r _))
        · exact .inl q
      · exact .inr q
    · rename_i hk
      rw [if_neg hk] at e
      exact cf_cell r _ _ y c e
theorem newEnv_cells {M : Model} {A : Around} {E : Value → Shared → Prop} {s : Shared} {scope : Scope} {globals : Addr} {cl : List (Str × Addr)} {qual : Str} {func : Option Addr} {code : Value} {env : Env} {builtins : Addr} {Q : Env → Shared → Prop}
    (hQ : Q (newEnv scope s.heap.objs.size globals (cellsFrom (s.heap.objs.size + 1) scope.names cl) qual func code (some env) builtins) { s with heap := pushCells (s.heap.push { cls := .type "dict", data := .dict #[] }) scope.names }) :
    wpAny M A (newFunctionEnv scope globals cl [] qual func code (some env) builtins) Q E s := by
  simp only [newFunctionEnv, Option.isSome_some, if_true]
  refine wpAny_bind (wpAny_alloc ?_)
  refine wpAny_bind (wpAny_layCells _ (fun name kind cells => by cases hkc : kind == NameKind.cell <;> simp [hkc]) _ _ _ _ ?_)
  rw [show ({ s with heap := s.heap.push { cls := .type "dict", data := .dict #[] } } : Shared).heap.objs.size = s.heap.objs.size + 1 from Heap.size_push ..]
  rw [List.forIn_nil]
  exact wpAny_bind (wpAny_pure (wpAny_pure hQ))
def cxLc (X : Cx) (own : List Str) (fr : List Nat) (sc : Scope) (cl : List (Str × Addr)) (C : Addr) (s : Shared) (H : Hp) (ex : List Addr) (pn : List (Addr × Obj)) : Cx where
  prog := X.prog
  w := X.w
  K := X.K
  mg := X.mg
  base := X.base
  A := X.A
  N := own ++ fr.map fun j => X.N.getD j ""
  s₀ := s
  H₀ := H
  env := compEnvC sc (cellsFrom (C + 1) sc.names cl) C X.env
  outer := X.stack
  stack := X.stack
  ex := ex
  fn := fun y => (cl.lookup y).isNone
  calm := X.calm
  pn := pn
  xe := NoX
def lcStart (own : List Str) (fr : List Nat) (σ : St) : St := own.map (fun _ => none) ++ fr.map fun j => (σ[j]?).join
structure LcScope (X : Cx) (sc : Scope) (cl : List (Str × Addr)) (fr : List Nat) : Prop where
  clos : closureFor sc X.env = pure cl
  kind : sc.kind = .function
  cells : ∀ y, (y, NameKind.cell) ∈ sc.names → cl.lookup y = none
  names : ∀ y ∈ sc.names, y.2 = .local → sc.names.lookup y.1 = some .local
  sub : ∀ y c, cl.lookup y = some c → X.env.cells.lookup y = some c
  has : ∀ y, ((relabel sc X.env).names.lookup y = some .cell ∨ (relabel sc X.env).names.lookup y = some .free) → (∃ c, cl.lookup y = some c) ∨ (y, NameKind.cell) ∈ sc.names
  frN : ∀ j ∈ fr, ∃ y, X.N[j]? = some y ∧ ((relabel sc X.env).names.lookup y = some .cell ∨ (relabel sc X.env).names.lookup y = some .free) ∧ Vis X.env.scope y ∧ X.env.scope.names.lookup y ≠ some .local ∧ ∃ c, cl.lookup y = some c
def tLc (wi : TI) (g : TG) (tt : TT) (te : TE) (own : List Str) (fr : List Nat) : TE := fun σ H Q => wi σ H fun J H1 => ∀ acc, H1 acc = none →
  ∃ W : Nat → Nat → List V → St → Hp → Prop, (∃ m, W 0 m [] (lcStart own fr σ) (upd H1 acc (.lst []))) ∧ ∀ i m ys σ1 H2, W i m ys σ1 H2 → H2 acc = some (.lst ys) ∧ ys.length < sizeLine ∧
    ((J.stop i H2 ∧ Q (.ref acc) H2) ∨ (J.go i H2 ∧ ∃ N : List V → St → Hp → Prop, (∀ zs σ2 H3, N zs σ2 H3 → ∃ m', m' < m ∧ W (i + 1) m' zs σ2 H3) ∧
      ∀ x H3, J.yld i H2 x H3 → g x σ1 H3 fun σ2 H4 => tt σ2 H4 fun b H5 => if b = true then te σ2 H5 (fun y H6 => H6 acc = some (.lst ys) ∧ N (ys ++ [y]) σ2 (upd H6 acc (.lst (ys ++ [y])))) else N ys σ2 H5))
theorem getD_of {N : List Str} {j : Nat} {y : Str} (h : N[j]? = some y) : N.getD j "" = y := by rw [List.getD_eq_getElem?_getD, h]; rfl
theorem lcInv {X : Cx} {pins : List (Addr × Obj)} {σ : St} {H : Hp} {s : Shared} {sc : Scope} {cl : List (Str × Addr)} {own : List Str} {fr : List Nat} {fp : List Addr} {h4 : Heap} {tk : Nat}
    (L : LcScope X sc cl fr) (I : Inv X pins σ H s) (hfp : ∀ b ∈ fp, FpOk X pins H b) (hlt : ∀ b ∈ fp, b < s.heap.objs.size) (hns : h4.Ns s.heap.objs.size fun _ => none)
    (kp : ∀ b o, s.heap.get? b = some o → h4.get? b = some o) (ncl : ∀ y c, (cellsFrom (s.heap.objs.size + 1) sc.names cl).lookup y = some c → cl.lookup y = some c ∨ h4.IsCell c none) : Inv (cxLc X own fr sc cl s.heap.objs.size s H fp (X.pn ++ pins)) [] (lcStart own fr σ) H { s with heap := h4, toks := tk } := by
  have noL : ∀ {b : Addr} {o : Obj}, s.heap.get? b = some o → b ≠ s.heap.objs.size := fun e => Nat.ne_of_lt (Heap.lt_size e)
  have hex : ∀ b ∈ (cxLc X own fr sc cl s.heap.objs.size s H fp (X.pn ++ pins)).ex, b ∈ fp := fun b z => z
  have stk : ∀ b, b ≠ X.env.locals → b ∉ X.fs → b ∉ frs X.stack := fun b h1 h2 z => (List.mem_cons.mp (I.stkSub b z)).elim h1 h2
  have cellLt : ∀ y c, cl.lookup y = some c → ∃ v, s.heap.IsCell c v := fun y c e => I.cell y c (L.sub y c e)
  have split : ∀ y c, (cellsFrom (s.heap.objs.size + 1) sc.names cl).lookup y = some c → cl.lookup y = some c ∨ s.heap.objs.size + 1 ≤ c := fun y c e => (cf_lookup _ _ _ y c e).imp id And.left
  refine ⟨⟨I.ok.mod, L.kind, I.ok.glob, I.ok.blt, Nat.le_refl _, cf_inj _ _ _ (fun y c e => by obtain ⟨v, q⟩ := cellLt y c e; exact Nat.lt_succ_of_lt q.lt) (fun y z c h1 h2 => I.ok.inj y z c (L.sub y c h1) (L.sub z c h2)), fun y hy => (L.has y hy).elim (cf_some _ _ _ y) (cf_has _ _ _ y), fun y c hy e => ?_, I.ok.hd, I.ok.frames, .inl rfl,
      fun b hb => ⟨Nat.ne_of_lt (hlt b (hex b hb)), fun y c e => (split y c e).elim (fun q => (hfp b (hex b hb)).2.2.2.2.1 y c (L.sub y c q)) fun q => Nat.ne_of_gt (Nat.lt_of_lt_of_le (hlt b (hex b hb)) (Nat.le_of_succ_le q))⟩, I.bs, Nat.le_trans I.ok.bsz I.sz, fun b o e z => ?_, fun b z => ?_, I.stack, I.stkFree⟩,
    rfl, I.bare, Un.kept kp, ⟨_, hns, fun i y v h1 h2 h3 => ?_⟩, fun y c e => ?_, I.hok.fresh (Nat.le_refl _), fun y c e => (split y c e).elim (fun q => I.freeC y c (L.sub y c q)) fun q => I.hok.fresh (Nat.le_of_succ_le q), fun p hp => ?_, I.hok.kept kp, ?_⟩
  · have hy' : (cl.lookup y).isNone = true := hy
    rcases split y c e with q | q
    · rw [q] at hy'
      cases hy'
    · exact Nat.le_of_succ_le q
  · rcases (hfp b (hex b z)).2.2.2.1 with q | q
    · exact I.ok.noex b o e q
    · exact absurd (Nat.lt_of_lt_of_le (Heap.lt_size (I.ok.bs b o e).1) q) (Nat.lt_irrefl _)
  · exact stk b (hfp b (hex b z)).2.1 (hfp b (hex b z)).2.2.1
  · have h1' : (own ++ fr.map fun j => X.N.getD j "")[i]? = some y := h1
    have h2' : (own.map (fun _ => none) ++ fr.map fun j => (σ[j]?).join)[i]? = some (some v) := h2
    by_cases hi : i < own.length
    · rw [List.getElem?_append_left (by simpa using hi), List.getElem?_map] at h2'
      cases q : own[i]? with
      | none => rw [q] at h2'; cases h2'
      | some z => rw [q] at h2'; cases h2'
    · rw [List.getElem?_append_right (by omega), List.getElem?_map] at h1'
      rw [List.getElem?_append_right (by simpa using hi), List.getElem?_map, List.length_map] at h2'
      cases q : fr[i - own.length]? with
      | none => rw [q] at h1'; cases h1'
      | some j =>
        rw [q] at h1' h2'
        obtain ⟨y', n1, n2, n3, n4, c', e'⟩ := L.frN j (List.mem_of_getElem? q)
        have ey : y' = y := by
          have this : X.N.getD j "" = y := Option.some.inj h1'
          rw [getD_of n1] at this
          exact this
        subst ey
        have ev : σ[j]? = some (some v) := by
          have z : (σ[j]?).join = some v := Option.some.inj h2'
          cases q2 : σ[j]? with
          | none => rw [q2] at z; cases z
          | some o => rw [q2] at z; exact congrArg some z
        obtain ⟨m, _, hl⟩ := I.loc
        obtain ⟨u, r, l⟩ := hl j y' v n1 ev n3
        refine ⟨u, r, .inr ⟨n2, ?_⟩⟩
        rcases l with ⟨k, _⟩ | ⟨_, c, e, z⟩
        · exact absurd k n4
        · have := L.sub y' c' e'
          rw [e] at this
          cases this
          obtain ⟨o, ho, hd⟩ := z
          exact ⟨_, (cf_old _ _ _ y' fun z => by rw [L.cells y' z] at e'; cases e').trans e', o, kp _ o ho, hd⟩
  · rcases ncl y c e with q | q
    · obtain ⟨v, o, ho, hd⟩ := cellLt y c q
      exact ⟨v, o, kp c o ho, hd⟩
    · exact ⟨none, q⟩
  · have hp' : p ∈ X.pn ++ pins := by
      have z : p ∈ (X.pn ++ pins) ++ [] := hp
      simpa using z
    obtain ⟨e, n, ne, nf, d⟩ := I.pin p hp'
    exact ⟨kp _ _ e, n, noL e, stk _ ne nf, d⟩
  · show (own.map (fun _ => (none : Option V)) ++ fr.map fun j => (σ[j]?).join).length = (own ++ fr.map fun j => X.N.getD j "").length
    simp
theorem pe_lc {X : Cx} {elt tg iter : Expr} {ifs : List Expr} {sc : Scope} {cl : List (Str × Addr)} {own : List Str} {fr : List Nat} {pos : Pos} {wi : TI} {g : TG} {tt : TT} {te : TE}
    (L : LcScope X sc cl fr) (hc : X.calm = true) (hi : PI X tg iter wi)
    (hg : ∀ C s H ex pn, PG (cxLc X own fr sc cl C s H ex pn) tg g)
    (ht : ∀ C s H ex pn (pins : List (Addr × Obj)) (s1 : Shared) (σ1 : St) (H1 : Hp) (Q : Bool → Hp → Prop), Inv (cxLc X own fr sc cl C s H ex pn) pins σ1 H1 s1 → tt σ1 H1 Q →
      wpAny (model X.prog X.w) X.A (lcTests ifs (compEnvC sc (cellsFrom (C + 1) sc.names cl) C X.env)) (TP (cxLc X own fr sc cl C s H ex pn) pins σ1 Q) NoX s1)
    (he : ∀ C s H ex pn, PE (cxLc X own fr sc cl C s H ex pn) elt te) (hs : ∀ x, foldedSetIterable iter X.env x = pure x := by intro _; rfl) :
    PE X (.ListComp elt [⟨tg, iter, ifs, 0⟩] sc pos) (tLc wi g tt te own fr) := by
  intro pins s σ H Q I h
  rw [eval_ListComp]
  refine wpAny_comprehension_free (use := none) rfl hs L.clos L.kind L.names (thn (hi pins s σ H _ I h) fun v s1 h1 => thn h1 fun itv s2 h2 => ?_)
  obtain ⟨it, fp, tn, J, H2, e, I2, T, st2, f2, h2⟩ := h2
  subst e
  refine wpAny_newObj_type ?_
  have I3 : Inv X pins σ (upd H2 s2.heap.objs.size (.lst [])) { s2 with heap := s2.heap.push { cls := .type "list", data := .seq ([] : List Value).toArray } } := I2.lnew (t' := s2.toks) .nil (Nat.zero_le _)
  have n2 : H2 s2.heap.objs.size = none := I2.fresh
  obtain ⟨W, ⟨m0, w0⟩, turn⟩ := h2 _ n2
  have lt2 : ∀ b ∈ fp, b < s2.heap.objs.size := fun b hb => by
    obtain ⟨o, eo, _⟩ := T.obj 0 _ st2 b hb
    exact Heap.lt_size eo
  have fp3 : ∀ b ∈ fp, FpOk X pins (upd H2 s2.heap.objs.size (.lst [])) b := fun b hb => ⟨by rw [upd_ne (Nat.ne_of_lt (lt2 b hb))]; exact (f2 b hb).1, (f2 b hb).2⟩
  generalize hs3 : ({ s2 with heap := s2.heap.push { cls := .type "list", data := .seq ([] : List Value).toArray } } : Shared) = s3 at I3
  have st3 : tn 0 s3.heap := by
    rw [← hs3]
    exact T.keep 0 _ _ st2 fun b hb o eo => Heap.get?_push_of_some _ eo
  have lt3 : ∀ b ∈ fp, b < s3.heap.objs.size := fun b hb => by
    obtain ⟨o, eo, _⟩ := T.obj 0 _ st3 b hb
    exact Heap.lt_size eo
  generalize hH3 : upd H2 s2.heap.objs.size (.lst []) = H3 at I3 fp3 w0
  generalize s2.heap.objs.size = acc at turn w0 hH3 ⊢
  refine newEnv_cells ?_
  have hns : (pushCells (s3.heap.push { cls := .type "dict", data := .dict #[] }) sc.names).Ns s3.heap.objs.size fun _ => none := (Heap.Ns.new s3.heap (.type "dict")).keeps (pushCells_keeps _ _)
  have kp : ∀ b o, s3.heap.get? b = some o → (pushCells (s3.heap.push { cls := .type "dict", data := .dict #[] }) sc.names).get? b = some o := fun b o eo => pushCells_keeps _ _ b o (Heap.get?_push_of_some _ eo)
  have ncl : ∀ y c, (cellsFrom (s3.heap.objs.size + 1) sc.names cl).lookup y = some c → cl.lookup y = some c ∨ (pushCells (s3.heap.push { cls := .type "dict", data := .dict #[] }) sc.names).IsCell c none := fun y c e =>
    cf_cell sc.names (s3.heap.push { cls := .type "dict", data := .dict #[] }) cl y c (by rw [Heap.size_push]; exact e)
  generalize hh4 : pushCells (s3.heap.push { cls := .type "dict", data := .dict #[] }) sc.names = h4 at hns kp ncl
  have I4 := lcInv (own := own) (tk := s3.toks) L I3 fp3 lt3 hns kp ncl
  have st4 : tn 0 h4 := T.keep 0 _ _ st3 fun b hb o eo => kp b o eo
  have stat : ∀ {H' : Hp}, (∀ b ∈ fp, H' b = none) → ∀ b ∈ fp, FpOk (cxLc X own fr sc cl s3.heap.objs.size s3 H3 fp (X.pn ++ pins)) [] H' b := fun {H'} hn b hb =>
    ⟨hn b hb, Nat.ne_of_lt (lt3 b hb), fun z => (List.mem_cons.mp (I3.stkSub b z)).elim (fp3 b hb).2.1 (fp3 b hb).2.2.1, .inl hb, fun y c e => (cf_lookup _ _ _ y c e).elim (fun q => (fp3 b hb).2.2.2.2.1 y c (L.sub y c q)) fun q => Nat.ne_of_gt (Nat.lt_of_lt_of_le (lt3 b hb) (Nat.le_of_succ_le q.1)), fun p hp => (fp3 b hb).2.2.2.2.2 p (by
      have z : p ∈ (X.pn ++ pins) ++ [] := hp
      simpa using z)⟩
  have loop : codeAny (model X.prog X.w) X.A (.compLoop (.ListComp elt [⟨tg, iter, ifs, 0⟩] sc pos) 0 (.ref it) (.ref acc) (compEnvC sc (cellsFrom (s3.heap.objs.size + 1) sc.names cl) s3.heap.objs.size X.env))
      (compPost (model X.prog X.w) X.A X.xe none (EP X pins σ Q) (.ref acc) s3.heap.objs.size) { s3 with heap := h4, toks := s3.toks } := by
    refine lcLoop (fun n s' => ∃ i ys σ1 H1, Inv (cxLc X own fr sc cl s3.heap.objs.size s3 H3 fp (X.pn ++ pins)) [] σ1 H1 s' ∧ tn i s'.heap ∧ (∀ b ∈ fp, H1 b = none) ∧ W i n ys σ1 H1) ?_ m0 ⟨0, [], _, H3, I4, st4, fun b hb => (fp3 b hb).1, w0⟩
    rintro n s5 ⟨i, ys, σ5, H5, I5, st5, fr5, w5⟩
    obtain ⟨hacc, hlen, hh⟩ := turn i n ys σ5 H5 w5
    rcases hh with ⟨stop, qn⟩ | ⟨go, N, hN, step⟩
    · refine thn (T.done (cxLc X own fr sc cl s3.heap.objs.size s3 H3 fp (X.pn ++ pins)) rfl rfl rfl hc i [] s5 σ5 H5 NoX I5 (stat fr5) st5 stop) fun r s6 ⟨hr, I6⟩ => ?_
      subst hr
      obtain ⟨m6, ns6, _⟩ := id I6.loc
      refine ⟨m6, ns6, fun h7 sb7 => ⟨.ref acc, H5, ?_, rfl, qn⟩⟩
      have old : ∀ b o, s3.heap.get? b = some o → b ≠ s3.heap.objs.size := fun b o eo => Nat.ne_of_lt (Heap.lt_size eo)
      have u6 : Un (frs X.stack) fp H3 H5 s3.heap s6.heap := I6.base
      have u7 : Un (frs X.stack) fp H3 H5 s3.heap h7 :=
        ⟨fun b o eo nn hb hx => (sb7.2 b (old b o eo)).trans (u6.keep b o eo nn hb hx), fun b o eo nn hb hx => by
          obtain ⟨sl, q⟩ := u6.slot b o eo nn hb hx
          exact ⟨sl, (sb7.2 b (old b o eo)).trans q⟩, u6.free, fun b o eo hx => by
          obtain ⟨o', q⟩ := u6.there b o eo hx
          exact ⟨o', (sb7.2 b (old b o eo)).trans q⟩, u6.tups, u6.frzs, u6.tbls⟩
      have fC : H5 s3.heap.objs.size = none := I6.free
      have hok7 : HOk X.prog X.w H5 h7 := fun b ob eb => by
        refine (I6.hok b ob eb).stay (fun c w' hc' q => (sb7.2 c ?_).trans q) (fun _ q => q) fun _ _ q => q
        rintro rfl
        rcases hc' with z | z
        · rw [← z, fC] at eb; cases eb
        · rw [fC] at z; cases z
      exact I3.call' (s' := { s6 with heap := h7 }) I6.os u7 hok7 I6.bare fun b hb => ⟨(fp3 b hb).2.2.2.1, (fp3 b hb).2.1, (fp3 b hb).2.2.2.2.1, (fp3 b hb).2.2.2.2.2⟩
    · refine thn (T.item (cxLc X own fr sc cl s3.heap.objs.size s3 H3 fp (X.pn ++ pins)) rfl rfl rfl hc i [] s5 σ5 H5 NoX I5 (stat fr5) st5 go) fun r s6 ⟨u, hr, h6⟩ => ?_
      subst hr
      refine thn h6 fun _ s7 ⟨x, H7, I7, r7, y7, st7, fr7⟩ => ?_
      have I7' := I7.pinned (stat fr7) (T.obj _ _ st7)
      refine thn (hg _ _ _ _ _ _ s7 σ5 H7 x u _ I7' r7 (step x H7 y7)) fun _ s8 ⟨σ8, H8, I8, q8⟩ => ?_
      have again : ∀ {zs : List V} {σ9 : St} {H9 : Hp} {s9 : Shared}, Inv (cxLc X own fr sc cl s3.heap.objs.size s3 H3 fp (X.pn ++ pins)) ([] ++ pinsAt fp s7.heap) σ9 H9 s9 → N zs σ9 H9 →
          ∃ m, m < n ∧ ∃ i ys σ1 H1, Inv (cxLc X own fr sc cl s3.heap.objs.size s3 H3 fp (X.pn ++ pins)) [] σ1 H1 s9 ∧ tn i s9.heap ∧ (∀ b ∈ fp, H1 b = none) ∧ W i m ys σ1 H1 := fun {zs σ9 H9 s9} I9 n9 => by
        obtain ⟨m', hm, w9⟩ := hN zs σ9 H9 n9
        refine ⟨m', hm, i + 1, zs, σ9, H9, I9.unpinned, T.keep _ _ _ st7 fun b hb o e => (I9.pin (b, o) (List.mem_append_right _ (List.mem_append_right _ (mem_pinsAt hb e)))).1, fun b hb => ?_, w9⟩
        obtain ⟨o, e, d⟩ := T.obj _ _ st7 b hb
        exact (I9.pin (b, o) (List.mem_append_right _ (List.mem_append_right _ (mem_pinsAt hb e)))).2.1
      refine thn (ht _ _ _ _ _ _ s8 σ8 H8 _ I8 q8) fun ok s9 ⟨H9, I9, q9⟩ => ?_
      cases ok with
      | false => exact again I9 (by simpa using q9)
      | true =>
        refine thn (he _ _ _ _ _ _ s9 σ8 H9 _ I9 q9) fun z s10 ⟨y, H10, I10, r10, a10, q10⟩ => ?_
        refine thn (mt_append _ s10 σ8 H10 (.ref acc) [y] (.ref acc) [z] (fun _ H' => N (ys ++ [y]) σ8 H') I10 rfl (.cons r10 .nil) ⟨acc, ys, y, rfl, rfl, a10, hlen, q10⟩) fun _ s11 ⟨_, H11, I11, _, q11⟩ => again I11 q11
  rw [← hs3] at loop ⊢
  exact codeAny_compStart_list loop (noX (T.self _ 0 _ _ _ st4 (by rw [hs3]; rw [hs3] at loop; exact loop)))
end L2
namespace L2
open PySem PySem.Spec PyProof.Rows
theorem log2_of {n : Int} {k : Nat} (h : n.natAbs < 2 ^ k) (hk : 0 < k) : n.natAbs.log2 < k := by
  by_cases z : n.natAbs = 0
  · rw [z]
    show Nat.log2 0 < k
    rw [Nat.log2_zero]
    exact hk
  · exact (Nat.log2_lt z).mpr h
section
variable {X : Cx}
def CMulB (i j : Int) : Prop := i.natAbs < 2 ^ 8000 ∧ j.natAbs < 2 ^ 8000
theorem op_mulB : OpR X (binaryOp .Mult) (rI CMulB fun i j => .int (i * j)) := opI fun _ _ _ _ _ _ _ hc q =>
  mul_int q (IntMulOk.of_le (intBits_le_iff.mpr hc.1) (intBits_le_iff.mpr hc.2) (by decide))
def CDivB (_ j : Int) : Prop := 0 < j ∧ j.natAbs < 2 ^ 8000
theorem op_fdivB : OpR X (binaryOp .FloorDiv) (rI CDivB fun i j => .int (i / j)) := opI fun i j _ _ _ _ _ hc q => by
  have h1 : (0 : Int) < j := hc.1
  refine floordiv_int (by omega) (by rw [Int.fdiv_eq_ediv_of_nonneg i (by omega)]; exact q) (.inl (PyProof.noPylong_of_log2 ?_))
  exact Nat.lt_trans (log2_of hc.2 (by decide)) (by decide)
theorem step_small {hi c : Int} (h0 : 0 ≤ hi) (h1 : hi < 2 ^ 30) (c0 : 0 < c) (c1 : c < 2 ^ 30) : Builtin.Range.small 0 hi c = true := by
  unfold Builtin.Range.small
  rw [rangeSize_pos (by omega) h0]
  have a0 : 0 ≤ (hi + c - 1) / c := Int.ediv_nonneg (by omega) (by omega)
  have a1 : (hi + c - 1) / c * c ≤ hi + c - 1 := Int.ediv_mul_le _ (by omega)
  have a2 : (hi + c - 1) / c ≤ hi + c - 1 := Int.ediv_le_self _ (by omega)
  have a3 : (0 : Int) ≤ (hi + c - 1) / c * c := Int.mul_nonneg a0 (by omega)
  have cc : c > 0 := c0
  simp only [Builtin.Range.rangeFitsLong, Bool.and_eq_true, Bool.or_eq_true, decide_eq_true_eq, beq_iff_eq, cc, if_true]
  generalize (hi + c - 1) / c * c = p at *
  generalize (hi + c - 1) / c = q at *
  omega
end
end L2
namespace L2
open PySem PySem.Spec PyProof.Rows
inductive Dv where
  | fl (v : V)
  | lst (ds : List Dv)
  | tup (ds : List Dv)
mutual
def eqD : Dv → Dv → Bool
  | .fl x, .fl y => eqV x y
  | .lst a, .lst b => eqDs a b
  | .tup a, .tup b => eqDs a b
  | _, _ => false
def eqDs : List Dv → List Dv → Bool
  | [], [] => true
  | x :: r, y :: q => eqD x y && eqDs r q
  | _, _ => false
end
mutual
def dpD : Dv → Nat
  | .fl _ => 0
  | .lst a => dpDs a + 1
  | .tup a => dpDs a + 1
def dpDs : List Dv → Nat
  | [] => 0
  | x :: r => max (dpD x) (dpDs r)
end
mutual
def Hv (K : PySem.W.Frag) (H : Hp) : Dv → V → Prop
  | .fl v, x => x = v ∧ flatV v = true
  | .lst ds, x => ∃ a xs, x = .ref a ∧ SqL K H a xs ∧ HvL K H ds xs
  | .tup ds, x => ∃ a xs, x = .ref a ∧ SqT K H a xs ∧ HvL K H ds xs
def HvL (K : PySem.W.Frag) (H : Hp) : List Dv → List V → Prop
  | [], xs => xs = []
  | d :: ds, xs => ∃ x r, xs = x :: r ∧ Hv K H d x ∧ HvL K H ds r
end
theorem eqV_refl {v : V} (h : flatV v = true) : eqV v v = true := by
  cases v <;> first | rfl | (simp [eqV]; done) | (exact absurd h (by decide)) | (cases h)
section
variable {X : Cx} {pins : List (Addr × Obj)} {σ : St} {H : Hp} {s : Shared}
theorem not_both (I : Inv X pins σ H s) {a : Addr} {xs ys : List V} (h1 : SqL X.K H a xs) (h2 : SqT X.K H a ys) : False := by
  obtain ⟨i1, _, p1, _⟩ := I.list h1
  obtain ⟨i2, _, p2, _⟩ := I.tuple h2
  exact SeqAt.ne_of_list_tuple p1.isList p2 rfl
mutual
theorem same_eq (I : Inv X pins σ H s) : ∀ (d e : Dv) (x : V), Hv X.K H d x → Hv X.K H e x → eqD d e = true
  | .fl v, .fl w, x, h1, h2 => by
    obtain ⟨rfl, f⟩ := h1
    obtain ⟨rfl, _⟩ := h2
    exact eqV_refl f
  | .fl v, .lst es, x, h1, h2 => by
    obtain ⟨rfl, f⟩ := h1
    obtain ⟨a, xs, rfl, _⟩ := h2
    cases f
  | .fl v, .tup es, x, h1, h2 => by
    obtain ⟨rfl, f⟩ := h1
    obtain ⟨a, xs, rfl, _⟩ := h2
    cases f
  | .lst ds, .fl v, x, h2, h1 => by
    obtain ⟨rfl, f⟩ := h1
    obtain ⟨a, xs, rfl, _⟩ := h2
    cases f
  | .tup ds, .fl v, x, h2, h1 => by
    obtain ⟨rfl, f⟩ := h1
    obtain ⟨a, xs, rfl, _⟩ := h2
    cases f
  | .lst ds, .lst es, x, h1, h2 => by
    obtain ⟨a, xs, rfl, q, r⟩ := h1
    obtain ⟨b, ys, e, q', r'⟩ := h2
    cases e
    have := I.list_inj q q'
    subst this
    exact same_eqs I ds es xs r r'
  | .tup ds, .tup es, x, h1, h2 => by
    obtain ⟨a, xs, rfl, q, r⟩ := h1
    obtain ⟨b, ys, e, q', r'⟩ := h2
    cases e
    have := I.tuple_inj q q'
    subst this
    exact same_eqs I ds es xs r r'
  | .lst ds, .tup es, x, h1, h2 => by
    obtain ⟨a, xs, rfl, q, r⟩ := h1
    obtain ⟨b, ys, e, q', r'⟩ := h2
    cases e
    exact (not_both I q q').elim
  | .tup ds, .lst es, x, h1, h2 => by
    obtain ⟨a, xs, rfl, q, r⟩ := h1
    obtain ⟨b, ys, e, q', r'⟩ := h2
    cases e
    exact (not_both I q' q).elim
theorem same_eqs (I : Inv X pins σ H s) : ∀ (ds es : List Dv) (xs : List V), HvL X.K H ds xs → HvL X.K H es xs → eqDs ds es = true
  | [], [], _, _, _ => rfl
  | [], e :: es, xs, h1, h2 => by
    obtain rfl : xs = [] := h1
    obtain ⟨x, r, z, _⟩ := h2
    cases z
  | d :: ds, [], xs, h1, h2 => by
    obtain rfl : xs = [] := h2
    obtain ⟨x, r, z, _⟩ := h1
    cases z
  | d :: ds, e :: es, xs, h1, h2 => by
    obtain ⟨x, r, rfl, a, b⟩ := h1
    obtain ⟨x', r', z, a', b'⟩ := h2
    cases z
    show (eqD d e && eqDs ds es) = true
    rw [same_eq I d e x a a', same_eqs I ds es r b b']
    rfl
end
theorem HvL.length {K : PySem.W.Frag} {H : Hp} : ∀ {ds : List Dv} {xs : List V}, HvL K H ds xs → ds.length = xs.length
  | [], xs, h => by
    obtain rfl : xs = [] := h
    rfl
  | d :: ds, xs, h => by
    obtain ⟨x, r, rfl, _, b⟩ := h
    rw [List.length_cons, List.length_cons, HvL.length b]
theorem eqDs_len : ∀ {ds es : List Dv}, ds.length ≠ es.length → eqDs ds es = false
  | [], [], h => absurd rfl h
  | [], _ :: _, _ => rfl
  | _ :: _, [], _ => rfl
  | d :: ds, e :: es, h => by
    show (eqD d e && eqDs ds es) = false
    rw [eqDs_len (ds := ds) (es := es) (by simpa using h), Bool.and_false]
def eqAtI (ds es : List Dv) (j : Nat) : Bool := match ds[j]?, es[j]? with
  | some d, some e => eqD d e
  | _, _ => false
theorem all_eqAtI : ∀ {ds es : List Dv}, ds.length = es.length → (List.range ds.length).all (eqAtI ds es) = eqDs ds es
  | [], [], _ => rfl
  | [], _ :: _, h => by cases h
  | _ :: _, [], h => by cases h
  | d :: ds, e :: es, h => by
    rw [List.length_cons, List.range_succ_eq_map, List.all_cons, List.all_map]
    show (eqD d e && (List.range ds.length).all (eqAtI (d :: ds) (e :: es) ∘ Nat.succ)) = (eqD d e && eqDs ds es)
    congr 1
    exact all_eqAtI (ds := ds) (es := es) (by simpa using h)
mutual
theorem eqAt_D (I : Inv X pins σ H s) : ∀ (d e : Dv) (A : Around) (x y : V) (u v : Value), A.units + dpD d < cLine → Hv X.K H d x → Hv X.K H e y → RelV x u → RelV y v → SeqAt.EqAt A s u v (eqD d e)
  | .fl a, .fl b, A, x, y, u, v, hu, h1, h2, rx, ry => by
    obtain ⟨rfl, f1⟩ := h1
    obtain ⟨rfl, f2⟩ := h2
    exact eqAt_V rx ry f1 f2
  | .fl a, .lst es, A, x, y, u, v, hu, h1, h2, rx, ry => by
    obtain ⟨rfl, f1⟩ := h1
    obtain ⟨b, ys, rfl, q, r⟩ := h2
    cases ry
    obtain ⟨its, _, pl, _⟩ := I.list q
    have hu' : A.units < cLine := hu
    cases x with
    | non => cases rx; exact SeqAt.EqAt.none_list pl.isList hu'
    | bl c => cases rx; exact SeqAt.EqAt.bool_list c pl.isList hu'
    | int c => obtain ⟨t, rfl⟩ := rx; exact SeqAt.EqAt.int_list c t pl.isList hu'
    | str c => obtain ⟨t, rfl⟩ := rx; exact SeqAt.EqAt.str_list c t pl.isList hu'
    | _ => cases f1
  | .fl a, .tup es, A, x, y, u, v, hu, h1, h2, rx, ry => by
    obtain ⟨rfl, f1⟩ := h1
    obtain ⟨b, ys, rfl, q, r⟩ := h2
    cases ry
    obtain ⟨its, _, pl, _⟩ := I.tuple q
    have hu' : A.units < cLine := hu
    cases x with
    | non => cases rx; exact SeqAt.EqAt.none_tuple pl hu'
    | bl c => cases rx; exact SeqAt.EqAt.bool_tuple c pl hu'
    | int c => obtain ⟨t, rfl⟩ := rx; exact SeqAt.EqAt.int_tuple c t pl hu'
    | str c => obtain ⟨t, rfl⟩ := rx; exact SeqAt.EqAt.str_tuple c t pl hu'
    | _ => cases f1
  | .lst ds, .fl b, A, x, y, u, v, hu, h1, h2, rx, ry => by
    obtain ⟨rfl, f2⟩ := h2
    obtain ⟨a, xs, rfl, q, r⟩ := h1
    cases rx
    obtain ⟨its, _, pl, _⟩ := I.list q
    have hu' : A.units < cLine := Nat.lt_of_le_of_lt (Nat.le_add_right _ _) hu
    cases y with
    | non => cases ry; exact SeqAt.EqAt.list_none pl.isList hu'
    | bl c => cases ry; exact SeqAt.EqAt.list_bool c pl.isList hu'
    | int c => obtain ⟨t, rfl⟩ := ry; exact SeqAt.EqAt.list_int c t pl.isList hu'
    | str c => obtain ⟨t, rfl⟩ := ry; exact SeqAt.EqAt.list_str c t pl.isList hu'
    | _ => cases f2
  | .tup ds, .fl b, A, x, y, u, v, hu, h1, h2, rx, ry => by
    obtain ⟨rfl, f2⟩ := h2
    obtain ⟨a, xs, rfl, q, r⟩ := h1
    cases rx
    obtain ⟨its, _, pl, _⟩ := I.tuple q
    have hu' : A.units < cLine := Nat.lt_of_le_of_lt (Nat.le_add_right _ _) hu
    cases y with
    | non => cases ry; exact SeqAt.EqAt.tuple_none pl hu'
    | bl c => cases ry; exact SeqAt.EqAt.tuple_bool c pl hu'
    | int c => obtain ⟨t, rfl⟩ := ry; exact SeqAt.EqAt.tuple_int c t pl hu'
    | str c => obtain ⟨t, rfl⟩ := ry; exact SeqAt.EqAt.tuple_str c t pl hu'
    | _ => cases f2
  | .lst ds, .tup es, A, x, y, u, v, hu, h1, h2, rx, ry => by
    obtain ⟨a, xs, rfl, q, r⟩ := h1
    obtain ⟨b, ys, rfl, q', r'⟩ := h2
    cases rx
    cases ry
    obtain ⟨_, _, p1, _⟩ := I.list q
    obtain ⟨_, _, p2, _⟩ := I.tuple q'
    exact SeqAt.EqAt.list_tuple p1.isList p2 (Nat.lt_of_le_of_lt (Nat.le_add_right _ _) hu)
  | .tup ds, .lst es, A, x, y, u, v, hu, h1, h2, rx, ry => by
    obtain ⟨a, xs, rfl, q, r⟩ := h1
    obtain ⟨b, ys, rfl, q', r'⟩ := h2
    cases rx
    cases ry
    obtain ⟨_, _, p1, _⟩ := I.tuple q
    obtain ⟨_, _, p2, _⟩ := I.list q'
    exact SeqAt.EqAt.tuple_list p1 p2.isList (Nat.lt_of_le_of_lt (Nat.le_add_right _ _) hu)
  | .lst ds, .lst es, A, x, y, u, v, hu, h1, h2, rx, ry => by
    obtain ⟨a, xs, rfl, q, r⟩ := id h1
    obtain ⟨b, ys, rfl, q', r'⟩ := id h2
    cases rx
    cases ry
    by_cases hab : a = b
    · subst hab
      rw [same_eq I _ _ _ h1 h2]
      exact SeqAt.EqAt.same _
    obtain ⟨i1, v1, p1, _⟩ := I.list q
    obtain ⟨i2, v2, p2, _⟩ := I.list q'
    have hu' : A.units < cLine := Nat.lt_of_le_of_lt (Nat.le_add_right _ _) hu
    have l1 := r.length
    have l2 := r'.length
    have m1 := v1.length
    have m2 := v2.length
    refine .of_refs hab ?_
    show SeqAt.RcAt A s (.ref a) (.ref b) (eqDs ds es)
    by_cases hl : ds.length = es.length
    · have z := SeqAt.RcAt.lists (e := eqAtI ds es) p1.isList p2.isList (by simp; omega) hu' (fun j g1 g2 => eqAt_Ds I ds es A.in1 xs ys i1 i2 (by show A.units + 1 + dpDs ds < cLine; have : A.units + (dpDs ds + 1) < cLine := hu; omega) r r' v1 v2 j (by simpa using g1) (by simpa using g2))
      rw [List.size_toArray, ← m1, ← l1, all_eqAtI hl] at z
      exact z
    · rw [eqDs_len hl]
      exact .lists_lengths p1.isList p2.isList (by simp; omega) hu'
  | .tup ds, .tup es, A, x, y, u, v, hu, h1, h2, rx, ry => by
    obtain ⟨a, xs, rfl, q, r⟩ := id h1
    obtain ⟨b, ys, rfl, q', r'⟩ := id h2
    cases rx
    cases ry
    by_cases hab : a = b
    · subst hab
      rw [same_eq I _ _ _ h1 h2]
      exact SeqAt.EqAt.same _
    obtain ⟨i1, v1, p1, _⟩ := I.tuple q
    obtain ⟨i2, v2, p2, _⟩ := I.tuple q'
    have hu' : A.units < cLine := Nat.lt_of_le_of_lt (Nat.le_add_right _ _) hu
    have l1 := r.length
    have l2 := r'.length
    have m1 := v1.length
    have m2 := v2.length
    refine .of_refs hab ?_
    show SeqAt.RcAt A s (.ref a) (.ref b) (eqDs ds es)
    have z := SeqAt.RcAt.tuples (e := eqAtI ds es) p1 p2 hu' (fun j g1 g2 => eqAt_Ds I ds es A.in1 xs ys i1 i2 (by show A.units + 1 + dpDs ds < cLine; have : A.units + (dpDs ds + 1) < cLine := hu; omega) r r' v1 v2 j (by simpa using g1) (by simpa using g2))
    have zz : ((List.range (min i1.toArray.size i2.toArray.size)).all (eqAtI ds es) && i1.toArray.size == i2.toArray.size) = eqDs ds es := by
      rw [List.size_toArray, List.size_toArray, ← m1, ← m2, ← l1, ← l2]
      by_cases hl : ds.length = es.length
      · rw [hl, Nat.min_self, ← hl, all_eqAtI hl]; simp [hl]
      · rw [eqDs_len hl, beq_eq_false_iff_ne.mpr hl, Bool.and_false]
    rw [zz] at z
    exact z
theorem eqAt_Ds (I : Inv X pins σ H s) : ∀ (ds es : List Dv) (A : Around) (xs ys : List V) (us vs : List Value), A.units + dpDs ds < cLine → HvL X.K H ds xs → HvL X.K H es ys → Vals xs us → Vals ys vs →
    ∀ (j : Nat) (h1 : j < us.length) (h2 : j < vs.length), SeqAt.EqAt A s us[j] vs[j] (eqAtI ds es j)
  | [], es, A, xs, ys, us, vs, hu, h1, h2, r1, r2, j, g1, g2 => by
    obtain rfl : xs = [] := h1
    cases r1
    exact absurd g1 (Nat.not_lt_zero _)
  | d :: ds, [], A, xs, ys, us, vs, hu, h1, h2, r1, r2, j, g1, g2 => by
    obtain rfl : ys = [] := h2
    cases r2
    exact absurd g2 (Nat.not_lt_zero _)
  | d :: ds, e :: es, A, xs, ys, us, vs, hu, h1, h2, r1, r2, j, g1, g2 => by
    obtain ⟨x, r, rfl, a, b⟩ := h1
    obtain ⟨y, q, rfl, a', b'⟩ := h2
    cases r1 with
    | cons c1 t1 => cases r2 with
      | cons c2 t2 =>
        have hm : dpDs (d :: ds) = max (dpD d) (dpDs ds) := rfl
        rw [hm] at hu
        cases j with
        | zero => exact eqAt_D I d e A x y _ _ (Nat.lt_of_le_of_lt (Nat.add_le_add_left (Nat.le_max_left _ _) _) hu) a a' c1 c2
        | succ j => exact eqAt_Ds I ds es A r q _ _ (Nat.lt_of_le_of_lt (Nat.add_le_add_left (Nat.le_max_right _ _) _) hu) b b' t1 t2 j (by simpa using g1) (by simpa using g2)
end
def rEqS (K : PySem.W.Frag) (neg : Bool) : R2 := fun x y H Q => ∃ d e, ((∃ ds es, d = .lst ds ∧ e = .lst es) ∨ ∃ ds es, d = .tup ds ∧ e = .tup es) ∧ Hv K H d x ∧ Hv K H e y ∧ dpD d ≤ 50 ∧ Q (.bl (if neg then !eqD d e else eqD d e)) H
theorem op_eqS (hr : X.A.units + 64 < cLine) : OpR X (compareOp .Eq) (rEqS X.K false) := by
  intro pins s σ H x y v u Q I rx ry h
  obtain ⟨d, e, hk, h1, h2, hd, q⟩ := h
  have hu' : X.A.units < cLine := by omega
  rcases hk with ⟨ds, es, rfl, rfl⟩ | ⟨ds, es, rfl, rfl⟩
  · obtain ⟨a, xs, rfl, q1, r⟩ := h1
    obtain ⟨b, ys, rfl, q2, r'⟩ := h2
    cases rx
    cases ry
    obtain ⟨i1, v1, p1, _⟩ := I.list q1
    obtain ⟨i2, v2, p2, _⟩ := I.list q2
    have l1 := r.length
    have l2 := r'.length
    have m1 := v1.length
    have m2 := v2.length
    have hd' : dpDs ds + 1 ≤ 50 := hd
    by_cases hl : ds.length = es.length
    · refine SeqAt.eq_listAt (e := eqAtI ds es) p1.isList p2.isList (by simp; omega) hu' (fun j g1 g2 => eqAt_Ds I ds es X.A.in1 xs ys i1 i2 (by show X.A.units + 1 + dpDs ds < cLine; omega) r r' v1 v2 j (by simpa using g1) (by simpa using g2)) ?_
      rw [List.size_toArray, ← m1, ← l1, all_eqAtI hl]
      exact ⟨.bl _, H, I, rfl, q⟩
    · refine SeqAt.eq_list_lengthsAt p1.isList p2.isList (by simp; omega) hu' ⟨.bl _, H, I, rfl, ?_⟩
      have z : eqD (.lst ds) (.lst es) = false := eqDs_len hl
      rw [z] at q
      exact q
  · obtain ⟨a, xs, rfl, q1, r⟩ := h1
    obtain ⟨b, ys, rfl, q2, r'⟩ := h2
    cases rx
    cases ry
    obtain ⟨i1, v1, p1, _⟩ := I.tuple q1
    obtain ⟨i2, v2, p2, _⟩ := I.tuple q2
    have l1 := r.length
    have l2 := r'.length
    have m1 := v1.length
    have m2 := v2.length
    have hd' : dpDs ds + 1 ≤ 50 := hd
    refine SeqAt.eq_tupleAt (e := eqAtI ds es) p1 p2 hu' (fun j g1 g2 => eqAt_Ds I ds es X.A.in1 xs ys i1 i2 (by show X.A.units + 1 + dpDs ds < cLine; omega) r r' v1 v2 j (by simpa using g1) (by simpa using g2)) ⟨.bl _, H, I, rfl, ?_⟩
    have zz : ((List.range (min i1.toArray.size i2.toArray.size)).all (eqAtI ds es) && i1.toArray.size == i2.toArray.size) = eqDs ds es := by
      rw [List.size_toArray, List.size_toArray, ← m1, ← m2, ← l1, ← l2]
      by_cases hl : ds.length = es.length
      · rw [hl, Nat.min_self, ← hl, all_eqAtI hl]; simp [hl]
      · rw [eqDs_len hl, beq_eq_false_iff_ne.mpr hl, Bool.and_false]
    rw [zz]
    exact q
theorem op_neS (hr : X.A.units + 64 < cLine) : OpR X (compareOp .NotEq) (rEqS X.K true) := by
  intro pins s σ H x y v u Q I rx ry h
  obtain ⟨d, e, hk, h1, h2, hd, q⟩ := h
  have hu' : X.A.units < cLine := by omega
  rcases hk with ⟨ds, es, rfl, rfl⟩ | ⟨ds, es, rfl, rfl⟩
  · obtain ⟨a, xs, rfl, q1, r⟩ := h1
    obtain ⟨b, ys, rfl, q2, r'⟩ := h2
    cases rx
    cases ry
    obtain ⟨i1, v1, p1, _⟩ := I.list q1
    obtain ⟨i2, v2, p2, _⟩ := I.list q2
    have l1 := r.length
    have l2 := r'.length
    have m1 := v1.length
    have m2 := v2.length
    have hd' : dpDs ds + 1 ≤ 50 := hd
    by_cases hl : ds.length = es.length
    · refine SeqAt.RcNeAt.lists (e := eqAtI ds es) p1.isList p2.isList (by simp; omega) hu' (fun j g1 g2 => eqAt_Ds I ds es X.A.in1 xs ys i1 i2 (by show X.A.units + 1 + dpDs ds < cLine; omega) r r' v1 v2 j (by simpa using g1) (by simpa using g2)) _ _ _ _ ?_
      rw [List.size_toArray, ← m1, ← l1, all_eqAtI hl]
      exact ⟨.bl _, H, I, rfl, q⟩
    · refine SeqAt.RcNeAt.lists_lengths p1.isList p2.isList (by simp; omega) hu' _ _ _ _ ⟨.bl _, H, I, rfl, ?_⟩
      have z : eqD (.lst ds) (.lst es) = false := eqDs_len hl
      rw [z] at q
      exact q
  · obtain ⟨a, xs, rfl, q1, r⟩ := h1
    obtain ⟨b, ys, rfl, q2, r'⟩ := h2
    cases rx
    cases ry
    obtain ⟨i1, v1, p1, _⟩ := I.tuple q1
    obtain ⟨i2, v2, p2, _⟩ := I.tuple q2
    have l1 := r.length
    have l2 := r'.length
    have m1 := v1.length
    have m2 := v2.length
    have hd' : dpDs ds + 1 ≤ 50 := hd
    refine SeqAt.RcNeAt.tuples (e := eqAtI ds es) p1 p2 hu' (fun j g1 g2 => eqAt_Ds I ds es X.A.in1 xs ys i1 i2 (by show X.A.units + 1 + dpDs ds < cLine; omega) r r' v1 v2 j (by simpa using g1) (by simpa using g2)) _ _ _ _ ⟨.bl _, H, I, rfl, ?_⟩
    have zz : ((List.range (min i1.toArray.size i2.toArray.size)).all (eqAtI ds es) && i1.toArray.size == i2.toArray.size) = eqDs ds es := by
      rw [List.size_toArray, List.size_toArray, ← m1, ← m2, ← l1, ← l2]
      by_cases hl : ds.length = es.length
      · rw [hl, Nat.min_self, ← hl, all_eqAtI hl]; simp [hl]
      · rw [eqDs_len hl, beq_eq_false_iff_ne.mpr hl, Bool.and_false]
    rw [zz]
    exact q
end
end L2
namespace L2
open PySem PySem.Spec PyProof.Rows
structure FunD (K : PySem.W.Frag) (x qual : Str) (st : Stmt) (dV : Value) (f : Addr) (fd : FuncData) : Prop where
  ex : ∃ (oc : Value) (od : Option Addr) (kV doc pm : Value) (an : Option Addr) (cdv ct : Value) (osl : Array (Option Value)),
    fd = PySem.W.fnOf x qual (defArgs st) (defBody st) (defScope st) dV kV doc pm an cdv ct ∧ K.lookup f = some ⟨oc, od, .func fd, osl⟩ ∧ PySem.W.codeIn K cdv qual = true
  kp : PySem.W.keepIn K (.ref f) = true
structure Kn (P : Program) (w : World) (K : PySem.W.Frag) (mg : Str → Option Value) (base : Heap) (CX : CXT) (k : Nat) (x : Str) (f : Addr) (fd : FuncData) (ps : List Str) (sp : Sp) : Prop where
  ok : FnOk P w K mg base CX k f fd ps sp
  mgx : mg x = some (.ref f)
  kp : PySem.W.keepIn K (.ref f) = true
  bd : Binds K fd ps []
section
variable {P : Program} {w : World} {K : PySem.W.Frag} {mg : Str → Option Value} {base : Heap}
theorem FunD.ok {x qual : Str} {st : Stmt} {dV : Value} {f : Addr} {fd : FuncData} {N ps : List Str} {k : Nat} {sp : Sp} (F : FunD K x qual st dV f fd) (S : FnScope N ps (defScope st)) (len : ∀ vs H Q E, sp vs H Q E → vs.length = ps.length)
    (hbody : ∀ (cdv : Value) (A : Around) (outer : List Env) (s : Shared) (H : Hp) (vs : List V) (Q : VK) (E : XK), Room k (A.deeper (envOfC qual (defScope st) s.heap.objs.size f cdv)) → sp vs H Q E →
      ∃ t, PSs (cxOf CX0 P w K mg base N qual (defScope st) f cdv A outer s H E).nox (defBody st) t ∧ t { nx := fun _ H' => Q .non H', rt := Q } (start N vs) H) : FnOk P w K mg base CX0 (k + 1) f fd ps sp := by
  obtain ⟨oc, od, kV, doc, pm, an, cdv, ct, osl, rfl, lk, hcd⟩ := F.ex
  refine fn_of lk hcd S len fun A outer s H vs Q E hr hsp => ?_
  obtain ⟨t, h, q⟩ := hbody cdv A outer s H vs Q E hr hsp
  exact ⟨t, h.nox, q⟩
theorem funD_mk {x qual : Str} {st : Stmt} {dV : Value} {f : Addr} {oc : Value} {od an : Option Addr} {osl : Array (Option Value)} {kV doc pm cdv ct : Value} (l : K.lookup f = some ⟨oc, od, .func (PySem.W.fnOf x qual (defArgs st) (defBody st) (defScope st) dV kV doc pm an cdv ct), osl⟩)
    (c : PySem.W.codeIn K cdv qual = true) (k : PySem.W.keepIn K (.ref f) = true) : FunD K x qual st dV f (PySem.W.fnOf x qual (defArgs st) (defBody st) (defScope st) dV kV doc pm an cdv ct) := ⟨⟨oc, od, kV, doc, pm, an, cdv, ct, osl, rfl, l, c⟩, k⟩
theorem FunD.binds {x qual : Str} {st : Stmt} {dV : Value} {f : Addr} {fd : FuncData} {ps : List Str} (F : FunD K x qual st dV f fd)
    (h : ∀ (kV doc pm : Value) (an : Option Addr) (cdv ct : Value) (us : List Value), us.length = ps.length → bindArgs (PySem.W.fnOf x qual (defArgs st) (defBody st) (defScope st) dV kV doc pm an cdv ct) ⟨us, []⟩ = pure (ps.zip us)) : Binds K fd ps [] := by
  obtain ⟨oc, od, kV, doc, pm, an, cdv, ct, osl, rfl, lk, hcd⟩ := F.ex
  exact .all (h kV doc pm an cdv ct)
end
section
variable {X : Cx} {CX : CXT} {k : Nat} {f : Addr} {fd : FuncData} {ps : List Str} {sp : Sp} {E : XK} {x : Str} {p pos : Pos} {e : Expr} {es : List Expr} {t : TA}
theorem pe_kn (F : Kn X.prog X.w X.K X.mg X.base CX0 k x f fd ps sp) (hr : Room k X.A) (hg : Gl X x) (ha : PA X (e :: es) t) (hdb : (x == ("__debug__" : Str)) = false := by decide)
    (he : starEach (e :: es) X.env = (false, eval e X.env) :: starEach es X.env := by rfl) (hpl : (backTo pos (starEach es X.env)).any (·.1) = false := by rfl) :
    PE X (.Call (.Name x p) (e :: es) [] pos) (tCall sp [] E0 t) := pe_call F.ok hr hg F.mgx F.kp F.bd .nil pass0 ha hdb he hpl
end
section
variable {K : PySem.W.Frag} {g : TG} {tb : TS} {D : Ends} {σ : St} {H : Hp}
end
def rCatL (K : PySem.W.Frag) : R2 := fun x y H Q => ∃ l b xs zs, x = .ref l ∧ y = .ref b ∧ SqL K H l xs ∧ SqL K H b zs ∧ xs.length + zs.length ≤ sizeLine ∧ ∀ p, H p = none → Q (.ref p) (upd H p (.lst (xs ++ zs)))
end L2
namespace L2
open PySem PySem.Spec PyProof.Rows
section
variable {Y : Cx} {c : Expr} {tt : TT}
theorem lc_t0 (pins : List (Addr × Obj)) (s1 : Shared) (σ1 : St) (H1 : Hp) (Q : Bool → Hp → Prop) (I : Inv Y pins σ1 H1 s1) (h : Q true H1) : wpAny (model Y.prog Y.w) Y.A (lcTests [] Y.env) (TP Y pins σ1 Q) NoX s1 :=
  wpAny_pure ⟨H1, I, h⟩
theorem lc_t1 (ht : PT Y c tt) (hx : Y.xe = NoX) (pins : List (Addr × Obj)) (s1 : Shared) (σ1 : St) (H1 : Hp) (Q : Bool → Hp → Prop) (I : Inv Y pins σ1 H1 s1) (h : tt σ1 H1 Q) : wpAny (model Y.prog Y.w) Y.A (lcTests [c] Y.env) (TP Y pins σ1 Q) NoX s1 := by
  have z := ht pins s1 σ1 H1 Q I h
  rw [hx] at z
  unfold lcTests
  rw [List.forIn_cons]
  simp only [if_true]
  refine wpAny_bind (wpAny_bind (thn z fun b s2 q => wpAny_pure ?_))
  exact wpAny_pure q
end
def tNoTest : TT := fun _ H Q => Q true H
section
variable {K : PySem.W.Frag} {g : TG} {tb : TS} {D : Ends} {σ : St} {H : Hp}
end
section
variable {X : Cx} {e st : Expr} {te ts : TE} {p2 pos : Pos}
end
section
variable {X : Cx}
theorem op_catL : OpR X (binaryOp .Add) (rCatL X.K) := by
  intro pins s σ H x y v u Q I rx ry h
  obtain ⟨l, b, xs, zs, rfl, rfl, hH, hB, hz, q⟩ := h
  cases rx
  cases ry
  obtain ⟨its, r, ⟨⟨cl, dd, da, sl⟩, n, e, c1, c2, d1⟩, z⟩ := I.list hH
  obtain ⟨its2, r2, ⟨⟨cl2, dd2, da2, sl2⟩, n2, e2, c3, c4, d2⟩, z2⟩ := I.list hB
  simp only at c1 d1 c3 d2
  subst c1 d1 c3 d2
  have l1 := r.length
  have l2 := r2.length
  refine concat_meets ⟨_, e, rfl⟩ ⟨_, e2, rfl⟩ noFill_list_add seq_list_add PySem.F.slot_list_add PySem.F.entry_list_add (PySem.F.args_list_add_2 _ _) (list_addW l b its.toArray its2.toArray n n2 dd dd2 sl sl2 (by simp; omega)) ⟨e, e2, ?_⟩
  have ea : its.toArray ++ its2.toArray = (its ++ its2).toArray := by simp
  rw [ea]
  exact ⟨.ref _, _, I.lnew (t' := s.toks) (r.append r2) (by rw [List.length_append]; omega), rfl, q _ I.fresh⟩
end
end L2
namespace L2
open PySem
theorem bt_isinstance : bootBuiltins "isinstance" = some (.builtin "isinstance") := by decide +kernel
theorem bt_len : bootBuiltins "len" = some (.builtin "len") := by decide +kernel
theorem bt_any : bootBuiltins "any" = some (.builtin "any") := by decide +kernel
theorem bt_bool : bootBuiltins "bool" = some (.type "bool") := by decide +kernel
theorem bt_list : bootBuiltins "list" = some (.type "list") := by decide +kernel
theorem bt_tuple : bootBuiltins "tuple" = some (.type "tuple") := by decide +kernel
theorem bt_enumerate : bootBuiltins "enumerate" = some (.type "enumerate") := by decide +kernel
theorem bt_ValueError : bootBuiltins "ValueError" = some (.type "ValueError") := by decide +kernel
end L2
namespace L2
open PySem PySem.Spec PyProof.Rows
def closF (cells : List (Str × Addr)) : List (Str × NameKind) → List (Str × Addr) → List (Str × Addr)
  | [], cs => cs
  | (n, k) :: r, cs => closF cells r (if k == .free then (n, (cells.lookup n).getD 0) :: cs else cs)
theorem clos_eq {sc : Scope} {env : Env} (h : ∀ p ∈ sc.names, p.2 = .free → ∃ c, env.cells.lookup p.1 = some c) : closureFor sc env = pure (closF env.cells sc.names []) := by
  have key : ∀ (names : List (Str × NameKind)) (cs : List (Str × Addr)), (∀ p ∈ names, p.2 = .free → ∃ c, env.cells.lookup p.1 = some c) →
      (forIn names cs fun x t => match x with
        | (name, kind) => if (kind == NameKind.free) = true then do
              let a ← cellOf env name
              pure (ForInStep.yield ((name, a) :: t))
            else pure (ForInStep.yield t)) = (pure (closF env.cells names cs) : Sem (List (Str × Addr))) := by
    intro names
    induction names with
    | nil => intro cs _; rfl
    | cons p r ih =>
      intro cs hp
      obtain ⟨n, k⟩ := p
      rw [List.forIn_cons]
      cases hk : k == NameKind.free with
      | true =>
        obtain ⟨c, hc⟩ := hp (n, k) (.head _) (beq_iff_eq.mp hk)
        have hc' : env.cells.lookup n = some c := hc
        have e1 : cellOf env n = pure c := by unfold cellOf; rw [hc']
        have e2 : closF env.cells ((n, k) :: r) cs = closF env.cells r ((n, c) :: cs) := by
          show closF env.cells r (if (k == NameKind.free) = true then _ else _) = _
          rw [hk, hc', if_pos rfl]
          rfl
        rw [e2, ← ih ((n, c) :: cs) fun q hq => hp q (.tail _ hq)]
        simp only [hk, if_true, e1]
        rfl
      | false =>
        have e2 : closF env.cells ((n, k) :: r) cs = closF env.cells r cs := by
          show closF env.cells r (if (k == NameKind.free) = true then _ else _) = _
          rw [hk, if_neg (by decide)]
        rw [e2, ← ih cs fun q hq => hp q (.tail _ hq)]
        simp only [hk, Bool.false_eq_true, if_false]
        rfl
  simp only [closureFor]
  rw [key sc.names [] h]
  rfl
theorem closF_sub {cells : List (Str × Addr)} : ∀ (names : List (Str × NameKind)) (cs : List (Str × Addr)), (∀ p ∈ names, p.2 = .free → ∃ c, cells.lookup p.1 = some c) → (∀ y c, cs.lookup y = some c → cells.lookup y = some c) →
    ∀ y c, (closF cells names cs).lookup y = some c → cells.lookup y = some c
  | [], _, _, h => h
  | (n, k) :: r, cs, hp, h => by
    refine closF_sub r _ (fun q hq => hp q (.tail _ hq)) fun y c e => ?_
    split at e
    · rename_i hk
      obtain ⟨c0, hc⟩ := hp (n, k) (.head _) (beq_iff_eq.mp hk)
      have hc' : cells.lookup n = some c0 := hc
      rw [List.lookup_cons] at e
      split at e
      · rename_i hy
        have : y = n := beq_iff_eq.mp hy
        subst this
        rw [hc'] at e
        cases e
        exact hc'
      · exact h y c e
    · exact h y c e
theorem closF_keep {cells : List (Str × Addr)} : ∀ (names : List (Str × NameKind)) (cs : List (Str × Addr)) (y : Str), (∃ c, cs.lookup y = some c) → ∃ c, (closF cells names cs).lookup y = some c
  | [], _, _, h => h
  | (n, k) :: r, cs, y, ⟨c, h⟩ => by
    refine closF_keep r _ y ?_
    split
    · rw [List.lookup_cons]
      split
      · exact ⟨_, rfl⟩
      · exact ⟨c, h⟩
    · exact ⟨c, h⟩
theorem closF_has {cells : List (Str × Addr)} : ∀ (names : List (Str × NameKind)) (cs : List (Str × Addr)) (y : Str), (y, NameKind.free) ∈ names → ∃ c, (closF cells names cs).lookup y = some c
  | [], _, _, h => nomatch h
  | (n, k) :: r, cs, y, h => by
    rcases List.mem_cons.mp h with e | h
    · have e1 : y = n := congrArg (·.1) e
      have e2 : NameKind.free = k := congrArg (·.2) e
      subst e1 e2
      refine closF_keep r _ _ ?_
      rw [if_pos (by decide), List.lookup_cons_self]
      exact ⟨_, rfl⟩
    · exact closF_has r _ y h
theorem mem_of_lookup {κ β : Type} [BEq κ] [LawfulBEq κ] {l : List (κ × β)} {y : κ} {k : β} (h : l.lookup y = some k) : (y, k) ∈ l := by
  induction l with
  | nil => cases h
  | cons p r ih =>
    obtain ⟨n, b⟩ := p
    rw [List.lookup_cons] at h
    split at h
    · rename_i hy
      have : y = n := beq_iff_eq.mp hy
      subst this
      cases h
      exact .head _
    · exact .tail _ (ih h)
section
variable {CX : CXT} {P : Program} {w : World} {K : PySem.W.Frag} {mg : Str → Option Value} {base : Heap} {N : List Str} {qual : Str} {sc0 : Scope} {f : Addr} {cd : Value} {A : Around} {outer : List Env} {s : Shared} {H : Hp} {E : XK} {XE : Value → Shared → Prop}
structure LcNames (N : List Str) (sc0 sc : Scope) (fr : List Nat) : Prop where
  kind : sc.kind = .function
  kind0 : sc0.kind = .function
  nocell : ∀ y ∈ sc.names, y.2 ≠ .cell
  loc : ∀ y ∈ sc.names, y.2 = .local → sc.names.lookup y.1 = some .local
  fre : ∀ y ∈ sc.names, y.2 = .free → sc0.names.lookup y.1 = some .cell
  frs : ∀ j ∈ fr, sc.names.lookup (N.getD j "") = some .free ∧ j < N.length
theorem lookup_relabel {env : Env} : ∀ {names : List (Str × NameKind)} {y : Str} {k : NameKind}, (names.map fun (n, k) => if (k == NameKind.free && env.scope.kind == .function && env.kindOf n == some .cell) then (n, NameKind.cell) else (n, k)).lookup y = some k →
    ∃ k0, names.lookup y = some k0 ∧ (k = k0 ∨ (k = .cell ∧ k0 = .free))
  | [], _, _, h => by cases h
  | (n, k0) :: r, y, k, h => by
    rw [List.map_cons] at h
    simp only at h
    split at h
    · rename_i hc
      rw [List.lookup_cons] at h ⊢
      split at h
      · cases h
        simp only [Bool.and_eq_true, beq_iff_eq] at hc
        exact ⟨k0, rfl, .inr ⟨rfl, hc.1.1⟩⟩
      · exact lookup_relabel h
    · rw [List.lookup_cons] at h ⊢
      split at h
      · cases h
        exact ⟨k0, rfl, .inl rfl⟩
      · exact lookup_relabel h
theorem lookup_relabel_free {env : Env} : ∀ {names : List (Str × NameKind)} {y : Str}, names.lookup y = some .free →
    (names.map fun (n, k) => if (k == NameKind.free && env.scope.kind == .function && env.kindOf n == some .cell) then (n, NameKind.cell) else (n, k)).lookup y = some .cell ∨
    (names.map fun (n, k) => if (k == NameKind.free && env.scope.kind == .function && env.kindOf n == some .cell) then (n, NameKind.cell) else (n, k)).lookup y = some .free
  | [], _, h => by cases h
  | (n, k0) :: r, y, h => by
    rw [List.map_cons]
    rw [List.lookup_cons] at h
    simp only
    split at h
    · rename_i hy
      cases h
      split
      · left; rw [List.lookup_cons, hy]
      · right; rw [List.lookup_cons, hy]
    · rename_i hy
      split
      · rw [List.lookup_cons, hy]; exact lookup_relabel_free h
      · rw [List.lookup_cons, hy]; exact lookup_relabel_free h
structure LcNamesC (N : List Str) (sc0 sc : Scope) (fr : List Nat) : Prop where
  kind : sc.kind = .function
  kind0 : sc0.kind = .function
  own : ∀ y ∈ sc.names, y.2 = .cell → ∀ z ∈ sc.names, z.2 = .free → z.1 ≠ y.1
  loc : ∀ y ∈ sc.names, y.2 = .local → sc.names.lookup y.1 = some .local
  fre : ∀ y ∈ sc.names, y.2 = .free → sc0.names.lookup y.1 = some .cell
  frs : ∀ j ∈ fr, sc.names.lookup (N.getD j "") = some .free ∧ j < N.length
theorem closF_none {cells : List (Str × Addr)} : ∀ (names : List (Str × NameKind)) (cs : List (Str × Addr)) (y : Str), (∀ z ∈ names, z.2 = .free → z.1 ≠ y) → cs.lookup y = none → (closF cells names cs).lookup y = none
  | [], _, _, _, h => h
  | (n, k) :: r, cs, y, hn, h => by
    refine closF_none r _ y (fun z hz => hn z (.tail _ hz)) ?_
    split
    · rename_i hk
      have hne : n ≠ y := hn (n, k) (.head _) (beq_iff_eq.mp hk)
      have hb : (y == n) = false := beq_eq_false_iff_ne.mpr fun e => hne e.symm
      rw [List.lookup_cons, hb]
      exact h
    · exact h
theorem lcsC {sc : Scope} {fr : List Nat} (L : LcNamesC N sc0 sc fr) : LcScope ((cxOf CX P w K mg base N qual sc0 f cd A outer s H E).wish XE) sc (closF (cellsFrom (s.heap.objs.size + 1) sc0.names []) sc.names []) fr := by
  have hfree : ∀ p ∈ sc.names, p.2 = .free → ∃ c, (cellsFrom (s.heap.objs.size + 1) sc0.names []).lookup p.1 = some c := fun p hp e => cell_has (L.fre p hp e)
  refine ⟨clos_eq hfree, L.kind, fun y hy => closF_none _ _ y (L.own _ hy rfl) rfl, L.loc, closF_sub _ _ hfree (fun _ _ e => nomatch e), fun y hy => ?_, fun j hj => ?_⟩
  · have hk : sc.names.lookup y = some .free ∨ sc.names.lookup y = some .cell := by
      rcases hy with hy | hy
      · obtain ⟨k0, h1, h2⟩ := lookup_relabel hy
        rcases h2 with h2 | ⟨_, h2⟩
        · rw [← h2] at h1; exact .inr h1
        · rw [h2] at h1; exact .inl h1
      · obtain ⟨k0, h1, h2⟩ := lookup_relabel hy
        rcases h2 with h2 | ⟨h2, _⟩
        · rw [← h2] at h1; exact .inl h1
        · cases h2
    exact hk.imp (fun q => closF_has _ _ y (mem_of_lookup q)) mem_of_lookup
  · obtain ⟨h1, h2⟩ := L.frs j hj
    have hm := mem_of_lookup h1
    have h3 := L.fre _ hm rfl
    refine ⟨N.getD j "", ?_, ?_, .inr (.inl h3), ?_, closF_has _ _ _ hm⟩
    · show N[j]? = some (N.getD j "")
      rw [List.getD_eq_getElem?_getD, List.getElem?_eq_getElem h2]
      rfl
    · exact lookup_relabel_free h1
    · intro z
      have z' : sc0.names.lookup (N.getD j "") = some .local := z
      have h3' : sc0.names.lookup (N.getD j "") = some .cell := h3
      rw [h3'] at z'
      cases z'
theorem lcs {sc : Scope} {fr : List Nat} (L : LcNames N sc0 sc fr) : LcScope ((cxOf CX P w K mg base N qual sc0 f cd A outer s H E).wish XE) sc (closF (cellsFrom (s.heap.objs.size + 1) sc0.names []) sc.names []) fr :=
  lcsC ⟨L.kind, L.kind0, fun y hy e => absurd e (L.nocell y hy), L.loc, L.fre, L.frs⟩
end
section
variable {g : TG} {tb : TS} {D : Ends} {σ : St} {H : Hp} {ta : TA}
end
section
variable {X : Cx} {K : PySem.W.Frag}
theorem ix_tupK (h : X.K = K) : IxR X (rIxT K) := h ▸ ix_tup
theorem ix_listK (h : X.K = K) : IxR X (rIxL K) := h ▸ ix_list
theorem call_lenK (h : X.K = K) : CallR X (.builtin "len") (fun xs H Q => ∃ p ys, xs = [.ref p] ∧ (SqL K H p ys ∨ SqT K H p ys) ∧ Q (.int ys.length) H) := h ▸ call_len_seq
end
end L2
namespace L2
open PySem PySem.Spec PyProof.Rows
theorem ObjOk.there {P : Program} {w : World} {H : Hp} {h : Heap} {a : Addr} {o : HO} (x : ObjOk P w H h a o) : ∃ u, h.get? a = some u := by
  cases o with
  | lst xs => obtain ⟨_, _, _, _, e⟩ := x; exact ⟨_, e⟩
  | tup xs => obtain ⟨_, _, _, ob, e, _⟩ := x; exact ⟨_, e⟩
  | dK kvs => obtain ⟨_, _, _, _, o, _, _, e, _⟩ := x; exact ⟨_, e⟩
  | dT kvs => obtain ⟨_, _, _, _, o, _, _, e, _⟩ := x; exact ⟨_, e⟩
  | set S n => obtain ⟨o, _, _, _, e, _⟩ := x; exact ⟨_, e⟩
  | ins C dx fs => obtain ⟨_, _, _, e, _⟩ := x; exact ⟨_, e⟩
  | own y => exact x
  | xd fs => obtain ⟨_, ⟨_, _, _, e, _⟩, _⟩ := x; exact ⟨_, e⟩
  | rng lo hi => obtain ⟨_, _, _, e⟩ := x; exact ⟨_, e⟩
  | frz ob u => obtain ⟨e, _⟩ := x; exact ⟨_, e⟩
  | tbl ps => exact ⟨_, (show h.get? a = some _ from x)⟩
  | met f y => exact ⟨_, (show h.get? a = some _ from x)⟩
  | ext φ => obtain ⟨_, e, _⟩ := x; exact e
structure Flies (P : Program) (w : World) (outer : List Env) (H : Hp) (s : Shared) (x C : Addr) (H' : Hp) (s' : Shared) : Prop where
  os : s'.os = s.os
  bare : AllBare s'.gens
  ex : ∃ (B : Heap) (a0 : Value), Heap.FlyingW B outer x (.ref C) a0 s'.heap ∧ HOk P w H' B ∧ (∀ b o, s.heap.get? b = some o → H b = none → b ∉ frs outer → B.get? b = some o) ∧
    (∀ b o, s.heap.get? b = some o → b ∉ frs outer → ∃ o', B.get? b = some o')
  slot : ∀ b o, s.heap.get? b = some o → b ∈ frs outer → ∃ sl, s'.heap.get? b = some { o with slots := sl }
  free : ∀ b o, s.heap.get? b = some o → H b = none → H' b = none
  tups : ∀ b xs, H b = some (.tup xs) → H' b = some (.tup xs)
  frzs : ∀ b o u, H b = some (.frz o u) → H' b = some (.frz o u)
  tbls : ∀ b ps, H b = some (.tbl ps) → ∃ more, H' b = some (.tbl (ps ++ more))
  nox : H' x = none
def CXE (P : Program) (w : World) : CXT := fun outer H s E e s' => ∃ x C H', e = .ref x ∧ Flies P w outer H s x C H' s' ∧ E (.ref C) (some x) H'
section
variable {P : Program} {w : World} {outer : List Env} {H H' : Hp} {s s' : Shared} {x C : Addr}
theorem Flies.un (f : Flies P w outer H s x C H' s') : Un (frs outer) [] H H' s.heap s'.heap := by
  obtain ⟨B, a0, fl, ok, kp, th⟩ := f.ex
  refine ⟨fun b o e n hb _ => fl.1 b o (kp b o e n hb), fun b o e n hb _ => f.slot b o e hb, fun b o e n _ => f.free b o e n, fun b o e _ => ?_, f.tups, f.frzs, f.tbls⟩
  by_cases hb : b ∈ frs outer
  · obtain ⟨sl, q⟩ := f.slot b o e hb
    exact ⟨_, q⟩
  · obtain ⟨o', q⟩ := th b o e hb
    exact ⟨o', fl.1 b o' q⟩
theorem Flies.hok (f : Flies P w outer H s x C H' s') : HOk P w H' s'.heap := by
  obtain ⟨B, a0, fl, ok, _⟩ := f.ex
  exact ok.kept fl.1
end
section
variable {X : Cx} {pins : List (Addr × Obj)} {σ : St} {H H' : Hp} {s s' : Shared}
theorem hide_hok (I : Inv X pins σ H s) : HOk X.prog X.w H (PySem.W.hideAll s.heap (frs X.stack)) := fun a o e =>
  (I.hok a o e).stay (fun b u hb q => PySem.W.hideAll_get _ q fun hm => by
    have n := I.stkFree b hm
    rcases hb with z | z
    · subst z; rw [n] at e; cases e
    · rw [n] at z; cases z) (fun _ q => q) fun _ _ q => q
theorem in_frs {l : List Env} : ∀ env ∈ l, ∀ a, env.frame = some a → a ∈ frs l := fun env he a ha => List.mem_filterMap.mpr ⟨env, he, ha⟩
theorem Inv.fly {x C : Addr} (I : Inv X pins σ H s) (f : Flies X.prog X.w X.stack H s x C H' s') : Inv X pins σ H' s' :=
  I.call' f.os f.un f.hok f.bare fun b hb => nomatch hb
end
section
variable {P : Program} {w : World} {K : PySem.W.Frag} {mg : Str → Option Value} {base : Heap} {N : List Str} {qual : Str} {sc : Scope} {f : Addr} {cd : Value} {A : Around} {outer : List Env} {s : Shared} {H : Hp} {E : XK}
end
end L2
namespace L2
open PySem PySem.Spec PyProof.Rows
abbrev mroV : List Value := [.type "ValueError", .type "Exception", .type "BaseException", .type "object"]
theorem exc_obj {K : PySem.W.Frag} {h : Heap} {C : Addr} {bmB : List Value} {nid : String} (Z : K.In h) (q : PySem.W.excIn K C bmB nid = true) :
    ∃ bm N nm qn bs hdct sn sub ab col dd k0 k1 k2 k3 k5 mN, h.get? C = some (excClassObj nm qn C N bs bm hdct sn sub ab col dd k0 k1 k2 k3 k5 nid) ∧ h.Ns N mN ∧ mN "__init__" = none ∧ OwnTail h bmB bm := by
  unfold PySem.W.excIn at q
  split at q
  next dd cd sl ho =>
    split at q
    next C' bm k0 k1 k2 k3 n k5 hm hs =>
      rw [Bool.and_eq_true, Bool.and_eq_true, Bool.and_eq_true, Bool.and_eq_true, Bool.and_eq_true] at q
      obtain ⟨⟨⟨⟨⟨q1, q2⟩, q3⟩, q4⟩, q5⟩, q6⟩ := q
      have e1 : C' = C := beq_iff_eq.mp q1
      have e2 : n = nid := beq_iff_eq.mp q2
      have e3 : cd.hasDel = false := by simpa using q3
      have e6 : PySem.W.nsIn K cd.ns "__init__" = some none := beq_iff_eq.mp q6
      subst e1 e2
      cases cd with
      | mk nm bs mro ns qn hd sn sub ab col del =>
        have e3' : del = false := e3
        have hm' : mro = .ref C' :: bm := hm
        subst e3' hm'
        have es : sl = #[k0, k1, k2, k3, some (.builtin n), k5] := by
          cases sl with
          | mk l => exact congrArg Array.mk hs
        subst es
        exact ⟨bm, ns, nm, qn, bs, hd, sn, sub, ab, col, dd, k0, k1, k2, k3, k5, _, Z _ _ ho, .of_isNs (PySem.W.isNs_of_in Z q5), PySem.W.nsMap_none_of_in Z q5 e6, PySem.W.tail_of_in Z q4⟩
    next => cases q
  next => cases q
section
variable {X : Cx} {E : XK} {C : Addr} {x : Str} {np cpos pos : Pos} {e₀ : Expr} {rest : List Expr} {ta : TA}
end
def PassesS (CX : CXT) (X : Cx) (E : St → XK) : Prop := ∀ (pins : List (Addr × Obj)) (σ : St) (H : Hp) (s : Shared) (e : Value) (s' : Shared), Inv X pins σ H s → CX X.stack H s (E σ) e s' → X.xe e s'
theorem Passes.s {CX : CXT} {X : Cx} {E : XK} (h : Passes CX X E) : PassesS CX X fun _ => E := fun pins σ H s e s' I z => h pins σ H s e s' I z
def tCallS (sp : Sp) (dvs : List V) (E : St → XK) (t : TA) : TE := fun σ H Q => t σ H fun vs H1 => sp (vs ++ dvs) H1 Q (E σ)
section
variable {X : Cx} {CX : CXT} {k : Nat} {f : Addr} {fd : FuncData} {ps : List Str} {sp : Sp} {dvs : List V} {ds : List Value} {E : St → XK} {x : Str} {p pos : Pos} {e : Expr} {es : List Expr} {t : TA}
theorem pe_callS (F : FnOk X.prog X.w X.K X.mg X.base CX k f fd ps sp) (hr : Room k X.A) (hg : Gl X x) (hm : X.mg x = some (.ref f)) (hk : PySem.W.keepIn X.K (.ref f) = true) (hb : Binds X.K fd ps ds) (hd : Vals dvs ds) (hx : PassesS CX X E)
    (ha : PA X (e :: es) t) (hdb : (x == ("__debug__" : Str)) = false := by decide) (he : starEach (e :: es) X.env = (false, eval e X.env) :: starEach es X.env := by rfl) (hpl : (backTo pos (starEach es X.env)).any (·.1) = false := by rfl) :
    PE X (.Call (.Name x p) (e :: es) [] pos) (tCallS sp dvs E t) := by
  intro pins s σ H Q I h
  refine wpAny_Call_Name_kw (ld_glob I hg hm ?_ hdb)
  refine PySem.W.callWith_K (h₀ := X.base) I.ok.mod.kin hk (thn (ha pos pins s σ H _ I h) fun us s1 ⟨vs, H1, I1, r, q⟩ => ⟨I1.kIn, ?_⟩) he hpl
  have r2 : Vals (vs ++ dvs) (us ++ ds) := r.append hd
  have hl : (us ++ ds).length = ps.length := by rw [← r2.length]; exact F.len _ _ _ _ q
  refine wpAny_call (codeAny_mono (F.run X.A X.stack s1 H1 ⟨us, []⟩ (us ++ ds) (vs ++ dvs) Q (E σ) hr I1.env0 (hb s1 us I1.kIn hl) r2 q) fun r s' hq => ?_)
  cases r with
  | error e => exact hx pins σ H1 s1 e s' I1 hq
  | ok fl =>
    cases fl with
    | ret u => exact I1.after hq
    | next => exact False.elim hq
    | brk => exact False.elim hq
    | cont => exact False.elim hq
end
abbrev Cx.inTry (X : Cx) (XE : Value → Shared → Prop) (pn : List (Addr × Obj)) : Cx := { X with xe := XE, pn := pn }
abbrev Cx.suite (X : Cx) (v : Value) : Cx := { X with A := X.A.mark (some v), calm := false, xe := fun _ _ => False }
theorem Inv.inTry {X : Cx} {pins : List (Addr × Obj)} {σ : St} {H : Hp} {s : Shared} (I : Inv X pins σ H s) (XE : Value → Shared → Prop) : Inv (X.inTry XE (X.pn ++ pins)) [] σ H s :=
  ⟨⟨I.ok.mod, I.ok.kind, I.ok.glob, I.ok.blt, I.ok.above, I.ok.inj, I.ok.has, I.ok.cab, I.ok.hd, I.ok.frames, I.ok.stk, I.ok.exf, I.ok.bs, I.ok.bsz, I.ok.noex, I.ok.exfs, I.ok.funs, I.ok.frf⟩, I.os, I.bare, I.base, I.loc, I.cell, I.free, I.freeC, fun p hp => I.pin p (by simpa using hp), I.hok, I.len⟩
theorem Inv.ofTry {X : Cx} {XE : Value → Shared → Prop} {pins pins' : List (Addr × Obj)} {σ : St} {H : Hp} {s : Shared} (I : Inv (X.inTry XE (X.pn ++ pins)) pins' σ H s) : Inv X pins σ H s :=
  ⟨⟨I.ok.mod, I.ok.kind, I.ok.glob, I.ok.blt, I.ok.above, I.ok.inj, I.ok.has, I.ok.cab, I.ok.hd, I.ok.frames, I.ok.stk, I.ok.exf, I.ok.bs, I.ok.bsz, I.ok.noex, I.ok.exfs, I.ok.funs, I.ok.frf⟩, I.os, I.bare, I.base, I.loc, I.cell, I.free, I.freeC, fun p hp => I.pin p (List.mem_append_left _ hp), I.hok, I.len⟩
theorem Inv.suite {X : Cx} {pins : List (Addr × Obj)} {σ : St} {H : Hp} {s : Shared} (I : Inv X pins σ H s) (v : Value) : Inv (X.suite v) pins σ H s :=
  ⟨⟨I.ok.mod, I.ok.kind, I.ok.glob, I.ok.blt, I.ok.above, I.ok.inj, I.ok.has, I.ok.cab, fun z => Bool.noConfusion z, I.ok.frames, I.ok.stk, I.ok.exf, I.ok.bs, I.ok.bsz, I.ok.noex, I.ok.exfs, I.ok.funs, I.ok.frf⟩, I.os, I.bare, I.base, I.loc, I.cell, I.free, I.freeC, I.pin, I.hok, I.len⟩
theorem Inv.ofSuite {X : Cx} {pins : List (Addr × Obj)} {σ : St} {H : Hp} {s : Shared} {v : Value} (I : Inv (X.suite v) pins σ H s) (hd : X.calm = true → X.A.handled = none) : Inv X pins σ H s :=
  ⟨⟨I.ok.mod, I.ok.kind, I.ok.glob, I.ok.blt, I.ok.above, I.ok.inj, I.ok.has, I.ok.cab, hd, I.ok.frames, I.ok.stk, I.ok.exf, I.ok.bs, I.ok.bsz, I.ok.noex, I.ok.exfs, I.ok.funs, I.ok.frf⟩, I.os, I.bare, I.base, I.loc, I.cell, I.free, I.freeC, I.pin, I.hok, I.len⟩
def ExcO (x C : Addr) : HO := .ext fun h => ∃ o vs, h.get? x = some o ∧ o.cls = .ref C ∧ o.data = .fields vs
theorem Inv.track {X : Cx} {pins : List (Addr × Obj)} {σ : St} {H : Hp} {s : Shared} {x : Addr} {o : HO} (I : Inv X pins σ H s) (hx : H x = none) (h0 : X.s₀.heap.get? x = none) (hL : x ≠ X.env.locals) (hC : ∀ y c, X.env.cells.lookup y = some c → c ≠ x)
    (hp : ∀ p ∈ X.pn ++ pins, p.1 ≠ x) (ok : ObjOk X.prog X.w (upd H x o) s.heap x o) : Inv X pins σ (upd H x o) s := by
  have keep : ∀ b u, H b = some u → upd H x o b = some u := fun b u q => by rw [upd_ne (ne_of_none q hx)]; exact q
  refine ⟨I.ok, I.os, I.bare, ⟨I.base.keep, I.base.slot, fun b ob q n e => ?_, I.base.there, fun b xs q => keep _ _ (I.base.tups b xs q), fun b ob u q => keep _ _ (I.base.frzs b ob u q), fun b ps q => ?_⟩, I.loc, I.cell, by rw [upd_ne (Ne.symm hL)]; exact I.free, fun y c e => by rw [upd_ne (hC y c e)]; exact I.freeC y c e, fun p hpp => ?_, fun b u q => ?_, I.len⟩
  · have : b ≠ x := fun z => by rw [z, h0] at q; cases q
    rw [upd_ne this]
    exact I.base.free b ob q n e
  · obtain ⟨more, e⟩ := I.base.tbls b ps q
    exact ⟨more, keep _ _ e⟩
  · obtain ⟨a, b, c, d, e⟩ := I.pin p hpp
    exact ⟨a, by rw [upd_ne (hp p hpp)]; exact b, c, d, e⟩
  · by_cases hb : b = x
    · subst hb
      rw [upd_same] at q
      cases q
      exact ok
    · rw [upd_ne hb] at q
      exact (I.hok b u q).stay (fun _ _ _ z => z) (fun c z => keep _ _ z) fun c xs z => keep _ _ z
theorem exc_matches {K : PySem.W.Frag} {M : Model} {A : Around} {E : Value → Shared → Prop} {s : Shared} {x C D : Addr} {o : Obj} {Q : Bool → Shared → Prop} (Z : K.In s.heap) (ho : s.heap.get? x = some o) (hc : o.cls = .ref C)
    (ht : PySem.W.typeIn K (.ref D) = some (.type "type")) (hD : PySem.W.isClsIn K D = true) (hb : PySem.W.subIn K (.ref D) (.type "BaseException") = some true) (hs : PySem.W.subIn K (.ref C) (.ref D) = some true) (h : Q true s) :
    wpAny M A (excMatches (.ref x) (.ref D)) Q E s := by
  have L1 : PySem.W.Looks M s.heap (typeOf (.ref D)) (.type "type") := PySem.W.looks_typeIn Z ht
  have L2 : PySem.W.Looks M s.heap (isType (.ref D)) true := by
    unfold PySem.W.isClsIn PySem.W.clsIn at hD
    split at hD
    next c' d' cd' sl' hk =>
      intro A' Q' E' s' k z
      unfold isType loadHead
      exact wpAny_bind (wpAny_loadPart (k _ _ (Z _ _ hk)) (wpAny_pure z))
    next => cases hD
  have L3 : PySem.W.Looks M s.heap (isSubtype (.ref D) (.type "BaseException")) true := PySem.W.looks_subIn Z hb
  have L4 : PySem.W.Looks M s.heap (typeOf (.ref x)) (.ref C) := hc ▸ (PySem.W.Looks.ld ho).andThen .now
  have L5 : PySem.W.Looks M s.heap (isSubtype (.ref C) (.ref D)) true := PySem.W.looks_subIn Z hs
  obtain ⟨hh, g, d, tk, os⟩ := s
  have f := tc_notTuple
  have L0 : PySem.W.Looks M hh (isSubtype (.type "type") (.type "tuple")) false := PySem.W.Looks.of_pure f
  unfold excMatches isExcClass isInstance
  repeat (first | lk | simp only [List.forIn_cons, List.forIn_nil, Bool.not_true, Bool.false_eq_true, if_false, if_true])
  exact h
def tTry (K : PySem.W.Frag) (D : Addr) (i : Nat) (tb : (St → XK) → TS) (th : TS) : TS := fun F σ H =>
  tb (fun σ1 c ax H1 => ∃ x C, c = .ref C ∧ ax = some x ∧ PySem.W.subIn K (.ref C) (.ref D) = some true ∧
    th { nx := fun σ2 H2 => F.nx (σ2.set i none) H2, rt := F.rt, bk := fun σ2 H2 => F.bk (σ2.set i none) H2, ct := fun σ2 H2 => F.ct (σ2.set i none) H2 } (σ1.set i (some (.ref x))) (upd H1 x (ExcO x C))) F σ H
theorem Inv.goes {X : Cx} {pins : List (Addr × Obj)} {σ : St} {H : Hp} {s : Shared} {M : Model} {A : Around} {E : Value → Shared → Prop} {i : Nat} {n : Str} {pos : Pos} {Q : Unit → Shared → Prop} (I : Inv X pins σ H s) (hN : X.N.Nodup) (hi : X.N[i]? = some n) (hl : X.env.scope.names.lookup n = some .local)
    (h : ∀ s', Inv X pins (σ.set i none) H s' → Q () s') : wpAny M A (do bindName X.env n .none; unbindBehindTheSuite X.env n pos) Q E s := by
  obtain ⟨m, hn, hm⟩ := id I.loc
  refine wpAny_nameGoes_keeps hl hn (by rw [I.ok.kind]; rfl) fun h' v hn' hs => h _ ?_
  have hfr : H X.env.locals = none := I.free
  have neL : ∀ b o, X.s₀.heap.get? b = some o → b ≠ X.env.locals := fun b o e => Nat.ne_of_lt (Nat.lt_of_lt_of_le (Heap.lt_size e) I.ok.above)
  refine ⟨I.ok, I.os, I.bare, ⟨fun b o e k hb hx => (hs.2 b (neL b o e)).trans (I.base.keep b o e k hb hx), fun b o e k hb hx => ?_, I.base.free, fun b o e hx => ?_, I.base.tups, I.base.frzs, I.base.tbls⟩, ⟨_, hn', fun j y u e1 e2 e3 => ?_⟩, fun y c e => ?_, I.free, I.freeC, fun p hp => ?_, fun b ob e => ?_, by simpa using I.len⟩
  · obtain ⟨sl, q⟩ := I.base.slot b o e k hb hx
    exact ⟨sl, (hs.2 b (neL b o e)).trans q⟩
  · obtain ⟨o', q⟩ := I.base.there b o e hx
    exact ⟨o', (hs.2 b (neL b o e)).trans q⟩
  · by_cases hj : j = i
    · subst hj
      have hlt : j < σ.length := by rw [I.len]; exact (List.getElem?_eq_some_iff.mp hi).1
      rw [List.getElem?_set_self hlt] at e2
      cases e2
    · rw [List.getElem?_set_ne (Ne.symm hj)] at e2
      obtain ⟨u', r', q⟩ := hm j y u e1 e2 e3
      refine ⟨u', r', ?_⟩
      rcases q with ⟨k, e⟩ | ⟨k, c, e, z⟩
      · refine .inl ⟨k, ?_⟩
        have ne : y ≠ n := fun e => hj (nodup_ix hN e1 (e ▸ hi))
        show (if y = n then v else m y) = some u'
        rw [if_neg ne]
        exact e
      · exact .inr ⟨k, c, e, z.sameBut hs (I.cne y c e)⟩
  · obtain ⟨w', z⟩ := I.cell y c e
    exact ⟨w', z.sameBut hs (I.cne y c e)⟩
  · obtain ⟨e, k, ne, nf, d⟩ := I.pin p hp
    exact ⟨(hs.2 p.1 ne).trans e, k, ne, nf, d⟩
  · refine (I.hok b ob e).stay (fun c w' hc q => (hs.2 c ?_).trans q) (fun _ q => q) fun _ _ q => q
    rintro rfl
    rcases hc with z | z
    · rw [← z, hfr] at e; cases e
    · rw [hfr] at z; cases z
section
variable {X : Cx} {D : Addr} {i : Nat} {n x : Str} {np hpos pos : Pos} {body suite : List Stmt} {b₀ : Stmt} {tb : (St → XK) → TS} {th : TS} {L : Addr} {outer : List Env}
theorem ps_try (hN : X.N.Nodup) (hi : X.N[i]? = some n) (hl : X.env.scope.names.lookup n = some .local) (hst : X.stack = X.env :: outer) (hfr : X.env.frame = some L) (hex : X.ex = []) (hg : Gl X x) (hm : X.mg x = some (.ref D))
    (ht : PySem.W.typeIn X.K (.ref D) = some (.type "type")) (hD : PySem.W.isClsIn X.K D = true) (hb : PySem.W.subIn X.K (.ref D) (.type "BaseException") = some true)
    (body_ok : ∀ (E : St → XK) (XE : Value → Shared → Prop) (pn : List (Addr × Obj)), PassesS (CXE X.prog X.w) (X.inTry XE pn) E → PSs (X.inTry XE pn) body (tb E))
    (suite_ok : ∀ v, PSs (X.suite v) (b₀ :: suite) th) (hdb : (x == ("__debug__" : Str)) = false := by decide) :
    PS X (.Try body [.ExceptHandler (some (.Name x np)) (some n) (b₀ :: suite) hpos] [] [] pos) (tTry X.K D i tb th) := by
  intro pins s σ H F I h
  refine wpAny_Try_except ?_
  let XE : Value → Shared → Prop := fun e s₁ => wpAny (model X.prog X.w) X.A (noteFrame e X.env) (fun _ s₂ => wpAny (model X.prog X.w) X.A (setFlight e none) (fun _ s₃ =>
    wpAny (model X.prog X.w) X.A (handleBy e X.env [.ExceptHandler (some (.Name x np)) (some n) (b₀ :: suite) hpos]) (SP X pins F) X.xe s₃) X.xe s₂) X.xe s₁
  have body1 := body_ok _ XE (X.pn ++ pins) ?pass [] s σ H F (I.inTry XE) h
  case pass =>
    rintro pins' σ1 H1 s1 ev s' I1 ⟨a, C, H', rfl, fl, a', C', e1, e2, hsub, hth⟩
    cases e1
    cases e2
    have I2 : Inv X pins σ1 H' s' := (I1.fly fl).ofTry
    have hI1 : Inv X pins σ1 H1 s1 := I1.ofTry
    obtain ⟨B, a0, fw, ok, kp, th'⟩ := fl.ex
    have fw' : Heap.FlyingW B (X.env :: outer) a (.ref C) a0 s'.heap := hst ▸ fw
    show wpAny (model X.prog X.w) X.A (noteFrame (.ref a) X.env) _ _ _
    refine wpAny_looks_onW (hst ▸ I.ok.frames) hfr fw' fun h₄ held₄ sm₄ => ?_
    refine wpAny_landsW held₄ fun h₅ fw₅ sm₅ => ?_
    have next : ∀ h6, Heap.FlyingW B (X.env :: outer) a (.ref C) a0 h6 → s'.heap.UpToSlots h6 → Inv X pins σ1 H' { s' with heap := h6 } := fun h6 fw6 sm6 => by
      have hFF : s'.heap.FunFrames B X.stack := fw.2.2.1
      refine hI1.fly (x := a) (C := C) ⟨fl.os, fl.bare, ⟨B, a0, hst ▸ fw6, ok, kp, th'⟩, fun b o q hb => ?_, fl.free, fl.tups, fl.frzs, fl.tbls, fl.nox⟩
      obtain ⟨sl, q1⟩ := fl.slot b o q hb
      obtain ⟨_, o2, ho2, hd2⟩ := hFF.mem hb
      rw [q1] at ho2
      cases ho2
      obtain ⟨sl2, q2⟩ := sm6 b _ q1 hd2
      exact ⟨sl2, q2⟩
    have I5 := next h₅ fw₅ (sm₄.trans sm₅)
    obtain ⟨oe, he, hec⟩ := fw₅.there
    refine wpAny_handleBy_cons (codeAny_handlers_test ?_) (by intro q; cases q)
    refine Calls.Name_function_global I.ok.kind hg (Calls.loadGlobal_global (by rw [I.ok.glob]; exact I5.mod.glob.keeps I5.bk) hm ?_) hdb
    refine exc_matches (K := X.K) I5.kIn he hec ht hD hb hsub ?_
    refine codeAny_handlers_suite_as ?_
    refine lands_againW fw₅ fun h₆ fw₆ sm₆ => ?_
    have I6 := next h₆ fw₆ ((sm₄.trans sm₅).trans sm₆)
    obtain ⟨oe6, vs6, he6, hc6, hd6, h06⟩ := fw₆.first
    have nfr : ∀ b o, s1.heap.get? b = some o → b ≠ a := fun b o q z => by
      subst z
      by_cases hb : b ∈ frs X.stack
      · obtain ⟨_, o2, ho2, hd2⟩ := (show h₆.FunFrames B X.stack from hst ▸ fw₆.2.2.1).mem hb
        rw [he6] at ho2
        cases ho2
        exact hd2 _ hd6
      · obtain ⟨o', q'⟩ := th' b o q hb
        rw [fw.2.1] at q'
        cases q'
    have h0 : X.s₀.heap.get? a = none := by
      cases q : X.s₀.heap.get? a with
      | none => rfl
      | some o =>
        obtain ⟨o', q'⟩ := hI1.base.there a o q (by rw [hex]; simp)
        exact absurd rfl (nfr a o' q')
    have I7 : Inv X pins σ1 (upd H' a (ExcO a C)) { s' with heap := h₆ } := by
      refine I6.track fl.nox h0 (fun z => ?_) (fun y c e z => ?_) (fun p hp z => ?_) ⟨⟨oe6, vs6, he6, hc6, hd6⟩, ⟨oe6, he6⟩, fun h1 h2 ⟨o, vs, q1, q2, q3⟩ k => ⟨o, vs, k _ q1, q2, q3⟩⟩
      · obtain ⟨m, ⟨o, _, _, ho, _⟩, _⟩ := hI1.loc
        exact nfr _ o ho z.symm
      · obtain ⟨v, o, ho, _⟩ := hI1.cell y c e
        exact nfr c o ho z
      · exact nfr p.1 p.2 (hI1.pin p hp).1 z
    refine store_ok I7 hN hi (.inl hl) (v := .ref a) rfl (fun s8 I8 => ?_) (.inr hl)
    refine wpAny_mono (suite_ok (.ref a) pins s8 _ _ _ (I8.suite (.ref a)) hth) (fun fl8 s9 hq => ?_) (fun _ _ z => False.elim z)
    have hd9 : X.calm = true → X.A.handled = none := I.ok.hd
    cases fl8 with
    | next =>
      obtain ⟨σ9, H9, I9, q9⟩ := hq
      exact (I9.ofSuite hd9).goes hN hi hl fun s10 I10 => ⟨_, _, I10, q9⟩
    | brk =>
      obtain ⟨σ9, H9, I9, q9⟩ := hq
      exact (I9.ofSuite hd9).goes hN hi hl fun s10 I10 => ⟨_, _, I10, q9⟩
    | cont =>
      obtain ⟨σ9, H9, I9, q9⟩ := hq
      exact (I9.ofSuite hd9).goes hN hi hl fun s10 I10 => ⟨_, _, I10, q9⟩
    | ret u =>
      obtain ⟨v, σ9, H9, I9, r9, q9⟩ := hq
      exact (I9.ofSuite hd9).goes hN hi hl fun s10 I10 => ⟨v, _, _, I10, r9, q9⟩
  refine wpAny_mono body1 (fun fl8 s9 hq => ?_) (fun e s9 z => z)
  cases fl8 with
  | next =>
    obtain ⟨σ9, H9, I9, q9⟩ := hq
    exact wpAny_execs_nil ⟨σ9, H9, I9.ofTry, q9⟩
  | brk =>
    obtain ⟨σ9, H9, I9, q9⟩ := hq
    exact ⟨σ9, H9, I9.ofTry, q9⟩
  | cont =>
    obtain ⟨σ9, H9, I9, q9⟩ := hq
    exact ⟨σ9, H9, I9.ofTry, q9⟩
  | ret u =>
    obtain ⟨v, σ9, H9, I9, r9, q9⟩ := hq
    exact ⟨v, σ9, H9, I9.ofTry, r9, q9⟩
end
end L2
namespace L2
open PySem PySem.Spec PyProof.Rows PySem.W PySem.Builtin PySem.Builtin.ObjectAttr PySem.Builtin.Getset_descriptor
structure Asks (K : PySem.W.Frag) (C : Addr) : Prop where
  ga : findIn K (.ref C) "__getattribute__" = some (some (.builtin "BaseException.__getattribute__"))
  gt : findIn K (.ref C) "__getattr__" = some none
  cl : findIn K (.ref C) "__class__" = some (some (.builtin "object.__class__"))
  sp : specialIn K (.builtin "object.__class__") "__get__" = some (some (.builtin "getset_descriptor.__get__"))
  tk : takesIn K (.builtin "object.__class__") = some true
  ob : mroIn K C (.type "object") = some true
  is : isClsIn K C = true
  bx : mroIn K C (.type "BaseException") = some true
def ExcAt (x C : Addr) (h : Heap) : Prop := ∃ o vs, h.get? x = some o ∧ o.cls = .ref C ∧ o.data = .fields vs
section
variable {K : PySem.W.Frag} {x C : Addr}
theorem ExcAt.ty {M : Model} {h : Heap} (p : ExcAt x C h) : Looks M h (typeOf (.ref x)) (.ref C) := by
  obtain ⟨o, vs, ho, hc, _⟩ := p
  exact hc ▸ (Looks.ld ho).andThen .now
theorem Asks.isTy {M : Model} {h : Heap} (a : Asks K C) (Z : K.In h) : Looks M h (isType (.ref C)) true := by
  have hD := a.is
  unfold isClsIn clsIn at hD
  split at hD
  next c' d' cd' sl' hk =>
    intro A' Q' E' s' k z
    unfold isType loadHead
    exact wpAny_bind (wpAny_loadPart (k _ _ (Z _ _ hk)) (wpAny_pure z))
  next => cases hD
theorem Asks.found {M : Model} {h : Heap} (a : Asks K C) (Z : K.In h) : Looks M h (find (.ref x) (.ref C) "__class__") (.bind (.builtin "getset_descriptor.__get__") (.builtin "object.__class__")) := by
  have L1 := looks_findIn (M := M) Z a.cl
  have L2 : Looks M h (getOf (some (.builtin "object.__class__"))) (some (.builtin "getset_descriptor.__get__")) := looks_specialIn Z a.sp
  have L3 := looks_takesIn (M := M) Z a.tk
  refine L1.andThen (L2.andThen ?_)
  have L4 : Looks M h (dataDescriptor? (some (.builtin "object.__class__")) (some (.builtin "getset_descriptor.__get__"))) (some (.builtin "getset_descriptor.__get__", .builtin "object.__class__")) := L3.andThen .now
  exact L4.andThen (Looks.tag .now)
variable {prog : Program} {w : World} {A : Around} {E : Value → Shared → Prop} {s : Shared}
theorem Asks.got {tp : Value} {R : Result → Shared → Prop} (a : Asks K C) (Z : K.In s.heap) (p : ExcAt x C s.heap) (h : R (.ok (.ret (.ref C))) s) :
    codeAny (model prog w) A (.call (.builtin "getset_descriptor.__get__") ⟨[.builtin "object.__class__", .ref x, tp], []⟩) R s := by
  obtain ⟨hp, gn, dr, tt, oo⟩ := s
  have T0 := p.ty (M := model prog w)
  have T1 := looks_mroIn (M := model prog w) Z a.ob
  refine codeAny_call_builtin KF.slot_gs.plain KF.entry_gs (KF.slot_gs.check _ _ _ _ _ _ _ _ KF.type_class (KF.args_gs _ _ _) ?_)
  unfold Builtin.«getset_descriptor.__get__» descrGet
  rw [dga_obj]
  refine wpAny_bind (wpAny_pure ?_)
  unfold descrGetter descrCheckInstance
  unfold descrNameAndClass isInstance
  simp only [KF.owner_class]
  repeat lk
  refine ⟨Code.quiet_builtin _ (by decide +kernel), codeAny_builtin KF.entry_class ?_⟩
  unfold Builtin.«object.__class__» shownTypeOf
  repeat lk
  exact h
theorem Asks.check {M : Model} {nv : Value} {Q : Unit → Shared → Prop} (a : Asks K C) (Z : K.In s.heap) (p : ExcAt x C s.heap) (h : Q () s) : wpAny M A (checkBuiltinCall "BaseException.__getattribute__" ⟨[.ref x, nv], []⟩) Q E s := by
  obtain ⟨hp, gn, dr, tt, oo⟩ := s
  have T0 := p.ty (M := M)
  have T1 := looks_mroIn (M := M) Z a.bx
  have hk : builtinKind "BaseException.__getattribute__" = some .slot := by decide +kernel
  have hs : splitId "BaseException.__getattribute__" = some ("BaseException", "__getattribute__") := by decide +kernel
  have ha := F.args_bexc_ga (.ref x) nv
  simp only [checkBuiltinCall, hk, hs]
  refine wpAny_bind ?_
  unfold isInstance
  repeat (first | lk | wp_step)
  exact h
theorem Asks.entry {tk : Tok} {Q : Fin → Shared → Prop} (a : Asks K C) (Z : K.In s.heap) (p : ExcAt x C s.heap) (h : Q (.done (.ret (.ref C))) s) : wpAny (model prog w) A (Builtin.«object.__getattribute__» ⟨[.ref x, .str "__class__" tk], []⟩) Q E s := by
  obtain ⟨hp, gn, dr, tt, oo⟩ := s
  have T0 := p.ty (M := model prog w)
  have T3 := a.found (M := model prog w) (x := x) Z
  unfold Builtin.«object.__getattribute__»
  repeat (first | (with_reducible refine Looks.at (by assumption) ?_) | wp_step)
  refine a.got (s := ⟨hp, gn, dr, tt, oo⟩) Z p ?_
  repeat (first | assumption | wp_step)
theorem Asks.attr {Q : Option Value → Shared → Prop} (a : Asks K C) (Z : K.In s.heap) (p : ExcAt x C s.heap) (h : Q (some (.ref C)) { s with toks := s.toks + 1 }) : wpAny (model prog w) A (getAttr? (.ref x) "__class__") Q E s := by
  obtain ⟨hp, gn, dr, tt, oo⟩ := s
  have T0 := p.ty (M := model prog w)
  have T1 := looks_findIn (M := model prog w) Z a.ga
  have T2 := looks_findIn (M := model prog w) Z a.gt
  have hb := F.attr_ValueError.ga.bind (.ref x)
  have hx1 : (onTheHeap (Value.ref C) && Value.builtin "BaseException.__getattribute__" == Value.builtin "object.__getattribute__") = false := by
    rw [show (Value.builtin "BaseException.__getattribute__" == Value.builtin "object.__getattribute__") = false by decide +kernel]
    rfl
  unfold getAttr? getAttrBy?
  unfold getAttrBy
  refine wpAny_bind (wpAny_mkText (wpAny_bind (wpAny_attempt (wpAny_holding (wpAny_bind (T0.at (wpAny_bind (T1.at ?_))))))))
  simp only [hx1, Bool.false_eq_true, if_false]
  unfold getAttrByItsOwn
  refine wpAny_bind (show wpAny _ _ (typeLookup (.ref C) "__getattr__") _ _ _ from T2.at ?_)
  refine wpAny_bind (wpAny_attempt (wpAny_holding ?_))
  show wpAny _ _ (boundAndCalled (.builtin "BaseException.__getattribute__") (.ref x) _) _ _ _
  unfold boundAndCalled
  rw [hb]
  refine wpAny_bind (wpAny_pure (wpAny_call (codeAny_call_builtin F.attr_ValueError.ga.plain F.entry_bexc_ga (a.check Z p (a.entry Z p ?_)))))
  exact handed_on rfl (wpAny_pure h)
theorem kitx_exc (a : Asks K C) : KitX K (.ref x) (.ref C) (ExcAt x C) where
  ty := fun _ _ _ p => p.ty
  it := fun _ _ Z _ => a.isTy Z
  ne := fun h tp dd its n sl Z htp => by
    refine Bool.eq_false_iff.mpr fun q => ?_
    have e : C = tp := Value.ref.inj (beq_iff_eq.mp q)
    subst e
    have hD := a.is
    unfold isClsIn clsIn at hD
    split at hD
    next c' d' cd' sl' hk =>
      have z := (Z _ _ hk).symm.trans htp
      cases z
    next => cases hD
  ca := fun Z p k => a.attr Z p k
end
section
variable {X : Cx}
end
end L2
namespace L2
open PySem PySem.Spec PyProof.Rows
theorem Same.tup {K : PySem.W.Frag} {H H' : Hp} {a : Addr} {xs : List V} (e : Same H H') (h : SqT K H a xs) : SqT K H' a xs := by
  rcases h with (h | ⟨o, h⟩) | h
  · exact .inl (.inl (e _ _ h))
  · exact .inl (.inr ⟨o, e _ _ h⟩)
  · exact .inr h
theorem Same.upd {H H' : Hp} {p : Addr} {o : HO} (e : Same H H') (hp : H p = none) : Same H (L2.upd H' p o) := fun b u h => by
  rw [upd_ne (ne_of_none h hp)]; exact e b u h
theorem Same.new {H : Hp} {p : Addr} {o : HO} (hp : H p = none) : Same H (L2.upd H p o) := (Same.refl H).upd hp
theorem small_lt {a : Int} (h0 : 0 ≤ a) (h : a < 2 ^ 60) : a.natAbs < 2 ^ 8000 := by
  have big : (2 : Nat) ^ 60 < 2 ^ 8000 := Nat.pow_lt_pow_right (by decide) (by decide)
  omega
section
variable {P : Program} {w : World} {K : PySem.W.Frag} {mg : Str → Option Value} {base : Heap}
theorem Fun.d {x qual : Str} {st : Stmt} {f : Addr} {fd : FuncData} (F : Fun K x qual st f fd) : FunD K x qual st .none f fd := ⟨F.ex, F.kp⟩
end
theorem PS.nox {X : Cx} {st : Stmt} {t : TS} (h : PS X.nox st t) : PS X st t := fun pins s σ H D I hw =>
  wpAny_mono (h pins s σ H D (I.wish _) hw) (fun _ _ q => q.unwish) fun _ _ z => False.elim z
end L2
namespace L2
open PySem
section
variable {X : Cx}
end
end L2
namespace L2
open PySem PySem.Spec PyProof.Rows
section
variable {X : Cx} {tg : Expr}
theorem boolsAre {bs : List Bool} {its : List Value} (r : Vals (bs.map V.bl) its) : PyProof.Rows.LSm.BoolsAre its bs := by
  induction bs generalizing its with
  | nil => cases r; exact .nil
  | cons y ys ih =>
    cases r with
    | cons r1 rr =>
      cases r1
      exact .cons _ (ih rr)
end
end L2
namespace L2
open PySem PySem.Spec PyProof.Rows
inductive Tr where
  | fz (d : Dv)
  | ow (ts : List Tr)
  | tp (ts : List Tr)
mutual
def Ow (K : PySem.W.Frag) (G H : Hp) : Tr → V → List Addr → Prop
  | .fz d, v, fp => fp = [] ∧ Hv K G d v
  | .ow ts, v, fp => ∃ a vs fq, v = .ref a ∧ H a = some (.lst vs) ∧ OwL K G H ts vs fq ∧ fp = a :: fq
  | .tp ts, v, fp => ∃ a vs fq, v = .ref a ∧ H a = some (.tup vs) ∧ OwL K G H ts vs fq ∧ fp = a :: fq
def OwL (K : PySem.W.Frag) (G H : Hp) : List Tr → List V → List Addr → Prop
  | [], vs, fp => vs = [] ∧ fp = []
  | t :: ts, vs, fp => ∃ v r f1 f2, vs = v :: r ∧ fp = f1 ++ f2 ∧ Ow K G H t v f1 ∧ OwL K G H ts r f2
end
mutual
def er : Tr → Dv
  | .fz d => d
  | .ow ts => .lst (ers ts)
  | .tp ts => .tup (ers ts)
def ers : List Tr → List Dv
  | [] => []
  | t :: ts => er t :: ers ts
end
theorem ers_map : ∀ ts : List Tr, ers ts = ts.map er
  | [] => rfl
  | t :: ts => by rw [ers, ers_map ts]; rfl
mutual
theorem Hv.mono {K : PySem.W.Frag} {G G' : Hp} (e : Same G G') : ∀ {d : Dv} {v : V}, Hv K G d v → Hv K G' d v
  | .fl _, _, h => h
  | .lst ds, _, ⟨a, xs, h1, h2, h3⟩ => ⟨a, xs, h1, e.seq h2, HvL.mono e h3⟩
  | .tup ds, _, ⟨a, xs, h1, h2, h3⟩ => ⟨a, xs, h1, e.tup h2, HvL.mono e h3⟩
theorem HvL.mono {K : PySem.W.Frag} {G G' : Hp} (e : Same G G') : ∀ {ds : List Dv} {vs : List V}, HvL K G ds vs → HvL K G' ds vs
  | [], _, h => h
  | _ :: _, _, ⟨x, r, h1, h2, h3⟩ => ⟨x, r, h1, h2.mono e, HvL.mono e h3⟩
end
mutual
theorem Ow.mono {K : PySem.W.Frag} {G G' H H' : Hp} (e : Same G G') (e' : Same H H') : ∀ {t : Tr} {v : V} {fp : List Addr}, Ow K G H t v fp → Ow K G' H' t v fp
  | .fz _, _, _, ⟨h1, h2⟩ => ⟨h1, h2.mono e⟩
  | .ow _, _, _, ⟨a, vs, fq, h1, h2, h3, h4⟩ => ⟨a, vs, fq, h1, e' _ _ h2, OwL.mono e e' h3, h4⟩
  | .tp _, _, _, ⟨a, vs, fq, h1, h2, h3, h4⟩ => ⟨a, vs, fq, h1, e' _ _ h2, OwL.mono e e' h3, h4⟩
theorem OwL.mono {K : PySem.W.Frag} {G G' H H' : Hp} (e : Same G G') (e' : Same H H') : ∀ {ts : List Tr} {vs : List V} {fp : List Addr}, OwL K G H ts vs fp → OwL K G' H' ts vs fp
  | [], _, _, h => h
  | _ :: _, _, _, ⟨v, r, f1, f2, h1, h2, h3, h4⟩ => ⟨v, r, f1, f2, h1, h2, h3.mono e e', OwL.mono e e' h4⟩
end
mutual
theorem Ow.frame {K : PySem.W.Frag} {G H : Hp} {a : Addr} {o : HO} : ∀ {t : Tr} {v : V} {fp : List Addr}, Ow K G H t v fp → a ∉ fp → Ow K G (upd H a o) t v fp
  | .fz _, _, _, h, _ => h
  | .ow _, _, _, ⟨b, vs, fq, h1, h2, h3, h4⟩, n => by
    subst h4
    refine ⟨b, vs, fq, h1, ?_, OwL.frame h3 fun z => n (.tail _ z), rfl⟩
    rw [upd_ne fun z => n (by rw [z]; exact .head _)]
    exact h2
  | .tp _, _, _, ⟨b, vs, fq, h1, h2, h3, h4⟩, n => by
    subst h4
    refine ⟨b, vs, fq, h1, ?_, OwL.frame h3 fun z => n (.tail _ z), rfl⟩
    rw [upd_ne fun z => n (by rw [z]; exact .head _)]
    exact h2
theorem OwL.frame {K : PySem.W.Frag} {G H : Hp} {a : Addr} {o : HO} : ∀ {ts : List Tr} {vs : List V} {fp : List Addr}, OwL K G H ts vs fp → a ∉ fp → OwL K G (upd H a o) ts vs fp
  | [], _, _, h, _ => h
  | _ :: _, _, _, ⟨v, r, f1, f2, h1, h2, h3, h4⟩, n => by
    subst h2
    exact ⟨v, r, f1, f2, h1, rfl, h3.frame fun z => n (List.mem_append_left _ z), OwL.frame h4 fun z => n (List.mem_append_right _ z)⟩
end
mutual
theorem Ow.there {K : PySem.W.Frag} {G H : Hp} : ∀ {t : Tr} {v : V} {fp : List Addr}, Ow K G H t v fp → ∀ a ∈ fp, ∃ o, H a = some o
  | .fz _, _, _, ⟨h, _⟩, a, ha => by subst h; cases ha
  | .ow _, _, _, ⟨b, vs, fq, h1, h2, h3, h4⟩, a, ha => by
    subst h4
    rcases List.mem_cons.mp ha with rfl | ha
    · exact ⟨_, h2⟩
    · exact OwL.there h3 a ha
  | .tp _, _, _, ⟨b, vs, fq, h1, h2, h3, h4⟩, a, ha => by
    subst h4
    rcases List.mem_cons.mp ha with rfl | ha
    · exact ⟨_, h2⟩
    · exact OwL.there h3 a ha
theorem OwL.there {K : PySem.W.Frag} {G H : Hp} : ∀ {ts : List Tr} {vs : List V} {fp : List Addr}, OwL K G H ts vs fp → ∀ a ∈ fp, ∃ o, H a = some o
  | [], _, _, ⟨_, h⟩, a, ha => by subst h; cases ha
  | _ :: _, _, _, ⟨v, r, f1, f2, h1, h2, h3, h4⟩, a, ha => by
    subst h2
    rcases List.mem_append.mp ha with ha | ha
    · exact h3.there a ha
    · exact OwL.there h4 a ha
end
mutual
theorem Ow.hv {K : PySem.W.Frag} {G H G' : Hp} (e : Same G G') : ∀ {t : Tr} {v : V} {fp : List Addr}, Ow K G H t v fp → (∀ a ∈ fp, G' a = H a) → Hv K G' (er t) v
  | .fz _, _, _, ⟨_, h⟩, _ => h.mono e
  | .ow _, _, _, ⟨b, vs, fq, h1, h2, h3, h4⟩, q => by
    subst h4
    exact ⟨b, vs, h1, SqL.of ((q b (.head _)).trans h2), OwL.hv e h3 fun a ha => q a (.tail _ ha)⟩
  | .tp _, _, _, ⟨b, vs, fq, h1, h2, h3, h4⟩, q => by
    subst h4
    exact ⟨b, vs, h1, SqT.of ((q b (.head _)).trans h2), OwL.hv e h3 fun a ha => q a (.tail _ ha)⟩
theorem OwL.hv {K : PySem.W.Frag} {G H G' : Hp} (e : Same G G') : ∀ {ts : List Tr} {vs : List V} {fp : List Addr}, OwL K G H ts vs fp → (∀ a ∈ fp, G' a = H a) → HvL K G' (ers ts) vs
  | [], _, _, ⟨h, _⟩, _ => h
  | _ :: _, _, _, ⟨v, r, f1, f2, h1, h2, h3, h4⟩, q => by
    subst h2
    exact ⟨v, r, h1, h3.hv e fun a ha => q a (List.mem_append_left _ ha), OwL.hv e h4 fun a ha => q a (List.mem_append_right _ ha)⟩
end
theorem OwL.length {K : PySem.W.Frag} {G H : Hp} : ∀ {ts : List Tr} {vs : List V} {fp : List Addr}, OwL K G H ts vs fp → ts.length = vs.length
  | [], _, _, ⟨h, _⟩ => by subst h; rfl
  | _ :: _, _, _, ⟨v, r, f1, f2, h1, h2, h3, h4⟩ => by subst h1; rw [List.length_cons, List.length_cons, OwL.length h4]
theorem OwL.append {K : PySem.W.Frag} {G H : Hp} : ∀ {ts us : List Tr} {vs ws : List V} {f1 f2 : List Addr}, OwL K G H ts vs f1 → OwL K G H us ws f2 → OwL K G H (ts ++ us) (vs ++ ws) (f1 ++ f2)
  | [], us, _, ws, _, f2, ⟨h, h'⟩, q => by subst h h'; exact q
  | _ :: _, us, _, ws, _, f2, ⟨v, r, g1, g2, h1, h2, h3, h4⟩, q => by
    subst h1 h2
    exact ⟨v, r ++ ws, g1, g2 ++ f2, rfl, by rw [List.append_assoc], h3, OwL.append h4 q⟩
theorem HvL.owl {K : PySem.W.Frag} {G H : Hp} : ∀ {ds : List Dv} {vs : List V}, HvL K G ds vs → OwL K G H (ds.map .fz) vs []
  | [], _, h => ⟨h, rfl⟩
  | _ :: _, _, ⟨x, r, h1, h2, h3⟩ => ⟨x, r, [], [], h1, rfl, ⟨rfl, h2⟩, HvL.owl h3⟩
structure Step (G H G' H' : Hp) : Prop where
  g : Same G G'
  h : Same H H'
  s : Same G' H'
  n : ∀ a, G a = none → G' a ≠ none → H a = none
theorem Step.refl {G H : Hp} (s : Same G H) : Step G H G H := ⟨Same.refl _, Same.refl _, s, fun a h h' => absurd h h'⟩
theorem Step.trans {G H G1 H1 G2 H2 : Hp} (a : Step G H G1 H1) (b : Step G1 H1 G2 H2) : Step G H G2 H2 :=
  ⟨a.g.trans b.g, a.h.trans b.h, b.s, fun x h h' => by
    cases q : G1 x with
    | none => exact a.h.free (b.n x q h')
    | some o => exact a.n x h (by rw [q]; exact fun z => nomatch z)⟩
theorem Same.upd2 {G H : Hp} {p : Addr} {o : HO} (s : Same G H) : Same (L2.upd G p o) (L2.upd H p o) := fun b u h => by
  unfold L2.upd at h ⊢
  split
  · rename_i e; rw [if_pos e] at h; exact h
  · rename_i e; rw [if_neg e] at h; exact s b u h
theorem Step.new {G H : Hp} {p : Addr} {o : HO} (s : Same G H) (hp : H p = none) : Step G H (upd G p o) (upd H p o) :=
  ⟨Same.new (s.free hp), Same.new hp, s.upd2, fun a h h' => by
    by_cases e : a = p
    · subst e; exact hp
    · rw [upd_ne e] at h'; exact absurd h h'⟩
theorem Step.newO {G H : Hp} {p : Addr} {o : HO} (s : Same G H) (hp : H p = none) : Step G H G (upd H p o) :=
  ⟨Same.refl _, Same.new hp, s.trans (Same.new hp), fun a h h' => absurd h h'⟩
structure Nw (H G' : Hp) (fq : List Addr) : Prop where
  n : ∀ a ∈ fq, H a = none
  g : ∀ a ∈ fq, G' a = none
  d : fq.Nodup
theorem Nw.nil {H G : Hp} : Nw H G [] := ⟨fun _ h => (nomatch h), fun _ h => (nomatch h), .nil⟩
def Kv (K : PySem.W.Frag) (G H : Hp) (t : Tr) (Q : VK) : Prop := ∀ v G' H' fq, Step G H G' H' → Ow K G' H' t v fq → Nw H G' fq → Q v H'
theorem Kv.step {K : PySem.W.Frag} {G H G1 H1 : Hp} {t : Tr} {Q : VK} (k : Kv K G H t Q) (e : Step G H G1 H1) : Kv K G1 H1 t Q := fun v G' H' fq st o w =>
  k v G' H' fq (e.trans st) o ⟨fun a ha => e.h.free (w.n a ha), w.g, w.d⟩
def frzd (G H : Hp) (fq : List Addr) : Hp := fun a => if a ∈ fq then H a else G a
theorem frzd_in {G H : Hp} {fq : List Addr} {a : Addr} (h : a ∈ fq) : frzd G H fq a = H a := by unfold frzd; rw [if_pos h]
theorem frzd_out {G H : Hp} {fq : List Addr} {a : Addr} (h : a ∉ fq) : frzd G H fq a = G a := by unfold frzd; rw [if_neg h]
theorem frzd_same {G H : Hp} {fq : List Addr} (h : ∀ a ∈ fq, G a = none) : Same G (frzd G H fq) := fun b o e => by
  by_cases q : b ∈ fq
  · rw [h b q] at e; cases e
  · rw [frzd_out q]; exact e
theorem frzd_sub {G H : Hp} {fq : List Addr} (s : Same G H) : Same (frzd G H fq) H := fun b o e => by
  by_cases q : b ∈ fq
  · rw [frzd_in q] at e; exact e
  · rw [frzd_out q] at e; exact s b o e
theorem Step.frz {G H G' H' : Hp} {fq : List Addr} (e : Step G H G' H') (w : Nw H G' fq) : Step G H (frzd G' H' fq) H' :=
  ⟨e.g.trans (frzd_same w.g), e.h, frzd_sub e.s, fun a h h' => by
    by_cases q : a ∈ fq
    · exact w.n a q
    · rw [frzd_out q] at h'; exact e.n a h h'⟩
structure Fam (ι : Type) where
  cx : ι → Cx
  P : Program
  w : World
  K : PySem.W.Frag
  mg : Str → Option Value
  base : Heap
  room : Nat
  hP : ∀ i, (cx i).prog = P
  hw : ∀ i, (cx i).w = w
  hK : ∀ i, (cx i).K = K
  hm : ∀ i, (cx i).mg = mg
  hb : ∀ i, (cx i).base = base
  hr : ∀ i, Room room (cx i).A
  calm : ∀ i, (cx i).calm = true
abbrev En := List (Option Tr)
def RpD (K : PySem.W.Frag) (G : Hp) (ρ : En) (σ : St) : Prop := ∀ (j : Nat) (d : Dv), ρ[j]? = some (some (Tr.fz d)) → ∃ v, σ[j]? = some (some v) ∧ Hv K G d v
theorem RpD.mono {K : PySem.W.Frag} {G G' : Hp} {ρ : En} {σ : St} (e : Same G G') (r : RpD K G ρ σ) : RpD K G' ρ σ := fun j d h => by
  obtain ⟨v, h1, h2⟩ := r j d h
  exact ⟨v, h1, h2.mono e⟩
section
variable {ι : Type}
def Ev (F : Fam ι) (e : Expr) (ρ : En) (t : Tr) : Prop := ∃ τ : TE, (∀ i, PE (F.cx i) e τ) ∧ ∀ σ G H Q, Same G H → RpD F.K G ρ σ → Kv F.K G H t Q → τ σ H Q
def Et (F : Fam ι) (e : Expr) (ρ : En) (b : Bool) : Prop := ∃ τ : TT, (∀ i, PT (F.cx i) e τ) ∧ ∀ σ G H Q, Same G H → RpD F.K G ρ σ → (∀ G' H', Step G H G' H' → Q b H') → τ σ H Q
def EvA (F : Fam ι) (es : List Expr) (ρ : En) (ts : List Tr) : Prop := ∃ τ : TA, (∀ i, PA (F.cx i) es τ) ∧ ∀ σ G H Q, Same G H → RpD F.K G ρ σ →
  (∀ vs G' H' fq, Step G H G' H' → OwL F.K G' H' ts vs fq → Nw H G' fq → Q vs H') → τ σ H Q
variable {F : Fam ι} {e a b : Expr} {es : List Expr} {ρ : En} {t ta tb : Tr} {ts : List Tr}
theorem Ev.use (h : Ev F e ρ t) : ∃ τ : TE, (∀ i, PE (F.cx i) e τ) ∧ ∀ σ G H (Q : VK), Same G H → RpD F.K G ρ σ → (∀ v G' H', Step G H G' H' → Hv F.K G' (er t) v → Q v H') → τ σ H Q := by
  obtain ⟨τ, p, q⟩ := h
  refine ⟨τ, p, fun σ G H Q s r k => q σ G H Q s r fun v G' H' fq st o w => ?_⟩
  exact k v (frzd G' H' fq) H' (st.frz w) (o.hv (frzd_same w.g) fun a ha => frzd_in ha)
theorem Ev.fz (h : Ev F e ρ t) : Ev F e ρ (.fz (er t)) := by
  obtain ⟨τ, p, q⟩ := h.use
  exact ⟨τ, p, fun σ G H Q s r k => q σ G H Q s r fun v G' H' st hv => k v G' H' [] st ⟨rfl, hv⟩ .nil⟩
theorem Ev.as {d : Dv} (h : Ev F e ρ t) (ed : er t = d) : Ev F e ρ (.fz d) := ed ▸ h.fz
theorem EvA.use (h : EvA F es ρ ts) : ∃ τ : TA, (∀ i, PA (F.cx i) es τ) ∧ ∀ σ G H (Q : List V → Hp → Prop), Same G H → RpD F.K G ρ σ → (∀ vs G' H', Step G H G' H' → HvL F.K G' (ers ts) vs → Q vs H') → τ σ H Q := by
  obtain ⟨τ, p, q⟩ := h
  refine ⟨τ, p, fun σ G H Q s r k => q σ G H Q s r fun v G' H' fq st o w => ?_⟩
  exact k v (frzd G' H' fq) H' (st.frz w) (o.hv (frzd_same w.g) fun a ha => frzd_in ha)
theorem eva_nil : EvA F [] ρ [] := ⟨tNil, fun i => pa_nil, fun σ G H Q s r k => k [] G H [] (.refl s) ⟨rfl, rfl⟩ .nil⟩
theorem Nw.app {H G1 H1 G2 : Hp} {f1 f2 : List Addr} (w1 : Nw H G1 f1) (w2 : Nw H1 G2 f2) (hh : Same H H1) (th : ∀ a ∈ f1, ∃ o, H1 a = some o) (hg : ∀ a, G1 a = none → G2 a ≠ none → H1 a = none) : Nw H G2 (f1 ++ f2) :=
  ⟨fun a ha => (List.mem_append.mp ha).elim (w1.n a) fun z => hh.free (w2.n a z), fun a ha => (List.mem_append.mp ha).elim (fun z => by
      cases q : G2 a with
      | none => rfl
      | some o =>
        obtain ⟨u, hu⟩ := th a z
        have := hg a (w1.g a z) (by rw [q]; exact fun z => nomatch z)
        rw [hu] at this; cases this) (w2.g a),
    List.nodup_append.mpr ⟨w1.d, w2.d, fun a ha b hb e => by
      subst e
      obtain ⟨u, hu⟩ := th a ha
      rw [w2.n a hb] at hu; cases hu⟩⟩
theorem eva_cons (ha : Ev F e ρ t) (hr : EvA F es ρ ts) (hs : ∀ i, starEach (e :: es) (F.cx i).env = (false, eval e (F.cx i).env) :: starEach es (F.cx i).env := by intro _; rfl) : EvA F (e :: es) ρ (t :: ts) := by
  obtain ⟨τ, p, q⟩ := ha
  obtain ⟨τ', p', q'⟩ := hr
  refine ⟨tCons τ τ', fun i => pa_cons (p i) (p' i) (hs i), fun σ G H Q s r k => ?_⟩
  refine q σ G H _ s r fun v G1 H1 f1 s1 o1 w1 => q' σ G1 H1 _ s1.s (r.mono s1.g) fun vs G2 H2 f2 s2 o2 w2 => ?_
  exact k (v :: vs) G2 H2 (f1 ++ f2) (s1.trans s2) ⟨v, vs, f1, f2, rfl, rfl, o1.mono s2.g s2.h, o2⟩ (w1.app w2 s1.h (fun a ha => o1.there a ha) s2.n)
end
end L2
namespace L2
open PySem PySem.Spec PyProof.Rows
abbrev di (n : Int) : Dv := .fl (.int n)
abbrev db (b : Bool) : Dv := .fl (.bl b)
abbrev dn : Dv := .fl .non
abbrev dis (ns : List Int) : Dv := .lst (ns.map di)
abbrev ti (n : Int) : Tr := .fz (di n)
abbrev tb (b : Bool) : Tr := .fz (db b)
abbrev tn : Tr := .fz dn
theorem Kv.sc {K : PySem.W.Frag} {G H : Hp} {v : V} {Q : VK} (k : Kv K G H (.fz (.fl v)) Q) (s : Same G H) (f : flatV v = true) : Q v H := k v G H [] (.refl s) ⟨rfl, rfl, f⟩ .nil
theorem Kv.dat {K : PySem.W.Frag} {G H : Hp} {d : Dv} {v : V} {Q : VK} (k : Kv K G H (.fz d) Q) (s : Same G H) (h : Hv K G d v) : Q v H := k v G H [] (.refl s) ⟨rfl, h⟩ .nil
theorem Kv.lst {K : PySem.W.Frag} {G H : Hp} {ts : List Tr} {vs : List V} {Q : VK} (k : Kv K G H (.ow ts) Q) (s : Same G H) (h : OwL K G H ts vs []) {p : Addr} (hp : H p = none) : Q (.ref p) (upd H p (.lst vs)) :=
  k (.ref p) G _ [p] (.newO s hp) ⟨p, vs, [], rfl, upd_same, h.mono (Same.refl _) (Same.new hp), rfl⟩ ⟨fun a ha => by rw [List.mem_singleton.mp ha]; exact hp, fun a ha => by rw [List.mem_singleton.mp ha]; exact s.free hp, by simp⟩
theorem hvi {K : PySem.W.Frag} {G : Hp} {v x : V} (h : Hv K G (.fl v) x) : x = v := h.1
section
variable {ι : Type} {F : Fam ι} {e a b c : Expr} {es : List Expr} {ρ : En} {t ta tb' : Tr} {ts : List Tr} {pos : Pos}
theorem ev_nm (j : Nat) {d : Dv} {x : Str} (h : ρ[j]? = some (some (.fz d))) (hN : ∀ i, (F.cx i).N[j]? = some x := by intro _; rfl)
    (hv : ∀ i, Vis (F.cx i).env.scope x := by intro _; first | exact Or.inl rfl | exact Or.inr (Or.inl rfl) | exact Or.inr (Or.inr rfl)) (hd : (x == ("__debug__" : Str)) = false := by decide) (hc : (x == ("__classdict__" : Str)) = false := by decide) : Ev F (.Name x pos) ρ (.fz d) :=
  ⟨tVar j, fun i => pe_var (hN i) (hv i) hd hc, fun σ G H Q s r k => by
    obtain ⟨v, h1, h2⟩ := r j d h
    exact ⟨v, h1, k.dat s h2⟩⟩
theorem ev_int {n : Int} {j : Nat} : Ev F (.Constant (.int n) j pos) ρ (ti n) := ⟨_, fun i => pe_int, fun σ G H Q s r k => k.sc s rfl⟩
theorem ev_non {j : Nat} : Ev F (.Constant .none j pos) ρ tn := ⟨_, fun i => pe_non, fun σ G H Q s r k => k.sc s rfl⟩
theorem ev_glob {x : Str} {v : V} {u : Value} (hm : F.mg x = some u) (r : RelV v u) (f : flatV v = true) (hg : ∀ i, Gl (F.cx i) x := by intro _; rfl) (hd : (x == ("__debug__" : Str)) = false := by decide) : Ev F (.Name x pos) ρ (.fz (.fl v)) :=
  ⟨tC v, fun i => pe_glob (hg i) ((F.hm i).symm ▸ hm) r hd, fun σ G H Q s _ k => k.sc s f⟩
theorem ev_bin {op : Operator} {r : R2} (ho : ∀ i, OpR (F.cx i) (binaryOp op) r) (ha : Ev F a ρ ta) (hb : Ev F b ρ tb')
    (h : ∀ G H x y Q, Same G H → Hv F.K G (er ta) x → Hv F.K G (er tb') y → Kv F.K G H t Q → r x y H Q) : Ev F (.BinOp a op b pos) ρ t := by
  obtain ⟨τ, p, q⟩ := ha.use
  obtain ⟨τ', p', q'⟩ := hb.use
  refine ⟨tOp r τ τ', fun i => pe_op (ho i) (p i) (p' i), fun σ G H Q s rr k => ?_⟩
  refine q σ G H _ s rr fun x G1 H1 s1 hx => q' σ G1 H1 _ s1.s (rr.mono s1.g) fun y G2 H2 s2 hy => ?_
  exact h G2 H2 x y Q s2.s (hx.mono s2.g) hy (k.step (s1.trans s2))
theorem ev_add {i j : Int} (ha : Ev F a ρ (ti i)) (hb : Ev F b ρ (ti j)) : Ev F (.BinOp a .Add b pos) ρ (ti (i + j)) := ev_bin (fun _ => op_add) ha hb fun G H x y Q s hx hy k => ⟨i, j, hvi hx, hvi hy, k.sc s rfl⟩
theorem ev_sub {i j : Int} (ha : Ev F a ρ (ti i)) (hb : Ev F b ρ (ti j)) : Ev F (.BinOp a .Sub b pos) ρ (ti (i - j)) := ev_bin (fun _ => op_sub) ha hb fun G H x y Q s hx hy k => ⟨i, j, hvi hx, hvi hy, k.sc s rfl⟩
theorem ev_mul {i j : Int} (ha : Ev F a ρ (ti i)) (hb : Ev F b ρ (ti j)) (hc : CMulB i j) : Ev F (.BinOp a .Mult b pos) ρ (ti (i * j)) := ev_bin (fun _ => op_mulB) ha hb fun G H x y Q s hx hy k => ⟨i, j, hvi hx, hvi hy, hc, k.sc s rfl⟩
theorem ev_div {i j : Int} (ha : Ev F a ρ (ti i)) (hb : Ev F b ρ (ti j)) (hc : CDivB i j) : Ev F (.BinOp a .FloorDiv b pos) ρ (ti (i / j)) := ev_bin (fun _ => op_fdivB) ha hb fun G H x y Q s hx hy k => ⟨i, j, hvi hx, hvi hy, hc, k.sc s rfl⟩
theorem ev_mod {i j : Int} (ha : Ev F a ρ (ti i)) (hb : Ev F b ρ (ti j)) (hc : 0 < j) : Ev F (.BinOp a .Mod b pos) ρ (ti (i % j)) := ev_bin (fun _ => op_mod) ha hb fun G H x y Q s hx hy k => ⟨i, j, hvi hx, hvi hy, hc, k.sc s rfl⟩
theorem ev_pow {i j : Int} (ha : Ev F a ρ (ti i)) (hb : Ev F b ρ (ti j)) (hc : CPow i j) : Ev F (.BinOp a .Pow b pos) ρ (ti (i ^ j.toNat)) := ev_bin (fun _ => op_pow) ha hb fun G H x y Q s hx hy k => ⟨i, j, hvi hx, hvi hy, hc, k.sc s rfl⟩
theorem ev_neg {i : Int} (ha : Ev F a ρ (ti i)) : Ev F (.UnaryOp .USub a pos) ρ (ti (-i)) := by
  obtain ⟨τ, p, q⟩ := ha.use
  exact ⟨_, fun i => pe_un un_neg (p i), fun σ G H Q s rr k => q σ G H _ s rr fun x G1 H1 s1 hx => ⟨i, hvi hx, (k.step s1).sc s1.s rfl⟩⟩
theorem ev_cat {xs ys : List Dv} (ha : Ev F a ρ ta) (hb : Ev F b ρ tb') (ea : er ta = .lst xs) (eb : er tb' = .lst ys) (hz : xs.length + ys.length ≤ sizeLine) : Ev F (.BinOp a .Add b pos) ρ (.ow ((xs ++ ys).map .fz)) :=
  ev_bin (r := rCatL F.K) (fun i => F.hK i ▸ op_catL) ha hb fun G H x y Q s hx hy k => by
    rw [ea] at hx
    rw [eb] at hy
    obtain ⟨l, vs, rfl, h1, h2⟩ := hx
    obtain ⟨l', ws, rfl, h3, h4⟩ := hy
    refine ⟨l, l', vs, ws, rfl, rfl, s.seq h1, s.seq h3, by rw [← h2.length, ← h4.length]; exact hz, fun p hp => ?_⟩
    refine k.lst s ?_ hp
    rw [List.map_append]
    exact h2.owl.append h4.owl
theorem ev_cmp {op : CmpOp} {r : R2} {c : Bool} (ho : ∀ i, OpR (F.cx i) (compareOp op) r) (ha : Ev F a ρ ta) (hb : Ev F b ρ tb')
    (h : ∀ G H x y (Q : VK), Same G H → Hv F.K G (er ta) x → Hv F.K G (er tb') y → Q (.bl c) H → r x y H Q) (hm : behindInMarks op b = false) : Ev F (.Compare a [op] [b] pos) ρ (tb c) := by
  obtain ⟨τ, p, q⟩ := ha.use
  obtain ⟨τ', p', q'⟩ := hb.use
  refine ⟨tOp r τ τ', fun i => pe_cmpR (ho i) (p i) (p' i) hm, fun σ G H Q s rr k => ?_⟩
  refine q σ G H _ s rr fun x G1 H1 s1 hx => q' σ G1 H1 _ s1.s (rr.mono s1.g) fun y G2 H2 s2 hy => ?_
  exact h G2 H2 x y Q s2.s (hx.mono s2.g) hy ((k.step (s1.trans s2)).sc s2.s rfl)
theorem et_cmp {op : CmpOp} {r : R2} {c : Bool} (ho : ∀ i, OpR (F.cx i) (compareOp op) r) (ha : Ev F a ρ ta) (hb : Ev F b ρ tb')
    (h : ∀ G H x y (Q : VK), Same G H → Hv F.K G (er ta) x → Hv F.K G (er tb') y → Q (.bl c) H → r x y H Q) (hm : behindInMarks op b = false) : Et F (.Compare a [op] [b] pos) ρ c := by
  obtain ⟨τ, p, q⟩ := ha.use
  obtain ⟨τ', p', q'⟩ := hb.use
  refine ⟨tTest (tOp r τ τ'), fun i => pt_cmpR (ho i) (p i) (p' i) hm, fun σ G H Q s rr k => ?_⟩
  refine q σ G H _ s rr fun x G1 H1 s1 hx => q' σ G1 H1 _ s1.s (rr.mono s1.g) fun y G2 H2 s2 hy => ?_
  exact h G2 H2 x y _ s2.s (hx.mono s2.g) hy ⟨c, rfl, k G2 H2 (s1.trans s2)⟩
theorem et_lt {i j : Int} (ha : Ev F a ρ (ti i)) (hb : Ev F b ρ (ti j)) : Et F (.Compare a [.Lt] [b] pos) ρ (decide (i < j)) := et_cmp (fun _ => op_lt) ha hb (fun G H x y Q s hx hy k => ⟨i, j, hvi hx, hvi hy, k⟩) (nomark _)
theorem et_gt {i j : Int} (ha : Ev F a ρ (ti i)) (hb : Ev F b ρ (ti j)) : Et F (.Compare a [.Gt] [b] pos) ρ (decide (j < i)) := et_cmp (fun _ => op_gt) ha hb (fun G H x y Q s hx hy k => ⟨i, j, hvi hx, hvi hy, k⟩) (nomark _)
theorem et_ge {i j : Int} (ha : Ev F a ρ (ti i)) (hb : Ev F b ρ (ti j)) : Et F (.Compare a [.GtE] [b] pos) ρ (decide (j ≤ i)) := et_cmp (fun _ => op_ge) ha hb (fun G H x y Q s hx hy k => ⟨i, j, hvi hx, hvi hy, k⟩) (nomark _)
theorem et_eq {i j : Int} (ha : Ev F a ρ (ti i)) (hb : Ev F b ρ (ti j)) : Et F (.Compare a [.Eq] [b] pos) ρ (decide (i = j)) := et_cmp (fun _ => op_eq) ha hb (fun G H x y Q s hx hy k => by
  rw [hvi hx, hvi hy]; exact ⟨rfl, by simpa using k⟩) (nomark _)
theorem et_ne {i j : Int} (ha : Ev F a ρ (ti i)) (hb : Ev F b ρ (ti j)) : Et F (.Compare a [.NotEq] [b] pos) ρ (!decide (i = j)) := et_cmp (fun _ => op_ne) ha hb (fun G H x y Q s hx hy k => by
  rw [hvi hx, hvi hy]; exact ⟨rfl, by simpa using k⟩) (nomark _)
theorem ev_lt {i j : Int} (ha : Ev F a ρ (ti i)) (hb : Ev F b ρ (ti j)) : Ev F (.Compare a [.Lt] [b] pos) ρ (tb (decide (i < j))) := ev_cmp (fun _ => op_lt) ha hb (fun G H x y Q s hx hy k => ⟨i, j, hvi hx, hvi hy, k⟩) (nomark _)
theorem ev_gt {i j : Int} (ha : Ev F a ρ (ti i)) (hb : Ev F b ρ (ti j)) : Ev F (.Compare a [.Gt] [b] pos) ρ (tb (decide (j < i))) := ev_cmp (fun _ => op_gt) ha hb (fun G H x y Q s hx hy k => ⟨i, j, hvi hx, hvi hy, k⟩) (nomark _)
theorem ev_ge {i j : Int} (ha : Ev F a ρ (ti i)) (hb : Ev F b ρ (ti j)) : Ev F (.Compare a [.GtE] [b] pos) ρ (tb (decide (j ≤ i))) := ev_cmp (fun _ => op_ge) ha hb (fun G H x y Q s hx hy k => ⟨i, j, hvi hx, hvi hy, k⟩) (nomark _)
theorem ev_eq {i j : Int} (ha : Ev F a ρ (ti i)) (hb : Ev F b ρ (ti j)) : Ev F (.Compare a [.Eq] [b] pos) ρ (tb (decide (i = j))) := ev_cmp (fun _ => op_eq) ha hb (fun G H x y Q s hx hy k => by
  rw [hvi hx, hvi hy]; exact ⟨rfl, by simpa using k⟩) (nomark _)
def alikeD (d e : Dv) : Prop := (∃ xs ys, d = .lst xs ∧ e = .lst ys) ∨ ∃ xs ys, d = .tup xs ∧ e = .tup ys
theorem et_neS (ha : Ev F a ρ ta) (hb : Ev F b ρ tb') (hk : alikeD (er ta) (er tb')) (hd : dpD (er ta) ≤ 50) : Et F (.Compare a [.NotEq] [b] pos) ρ (!eqD (er ta) (er tb')) :=
  et_cmp (r := rEqS F.K true) (fun i => F.hK i ▸ op_neS (F.hr i).units) ha hb (fun G H x y Q s hx hy k => ⟨_, _, hk, hx.mono s, hy.mono s, hd, k⟩) (nomark _)
theorem ev_eqS (ha : Ev F a ρ ta) (hb : Ev F b ρ tb') (hk : alikeD (er ta) (er tb')) (hd : dpD (er ta) ≤ 50) : Ev F (.Compare a [.Eq] [b] pos) ρ (tb (eqD (er ta) (er tb'))) :=
  ev_cmp (r := rEqS F.K false) (fun i => F.hK i ▸ op_eqS (F.hr i).units) ha hb (fun G H x y Q s hx hy k => ⟨_, _, hk, hx.mono s, hy.mono s, hd, k⟩) (nomark _)
theorem hvl_ints {K : PySem.W.Frag} {G : Hp} : ∀ {ns : List Int} {vs : List V}, HvL K G (ns.map di) vs → vs = ns.map V.int
  | [], _, h => h
  | _ :: _, _, ⟨x, r, h1, h2, h3⟩ => by subst h1; rw [hvi h2, hvl_ints h3]; rfl
theorem ints_hvl {K : PySem.W.Frag} {G : Hp} : ∀ {ns : List Int}, HvL K G (ns.map di) (ns.map V.int)
  | [] => rfl
  | _ :: _ => ⟨_, _, rfl, ⟨rfl, rfl⟩, ints_hvl⟩
theorem et_val {c : Bool} (h : Ev F e ρ (tb c)) (he : ∀ i whole, isTrue e (F.cx i).env whole = (do let v ← whole; standAt e.pos; holding [v] (truthy v)) := by intro _ _; rfl) : Et F e ρ c := by
  obtain ⟨τ, p, q⟩ := h
  exact ⟨tB τ, fun i => pt_val (p i) (he i), fun σ G H Q s r k => q σ G H _ s r fun v G' H' fq st o w => ⟨c, hvi o.2, k G' H' st⟩⟩
def Ew (F : Fam ι) (e : Expr) (ρ : En) (b : Bool) : Prop := ∃ τ : TT, (∀ i, PW (F.cx i) e τ) ∧ ∀ σ G H Q, Same G H → RpD F.K G ρ σ → (∀ G' H', Step G H G' H' → Q b H') → τ σ H Q
theorem Ew.et {p : Bool} (h : Ew F e ρ p) : Et F e ρ p := let ⟨τ, a, b⟩ := h; ⟨τ, fun i => (a i).pt, b⟩
theorem pw_never {X : Cx} : PW X e (fun _ _ _ => False) := fun _ _ _ _ _ _ _ h => h.elim
theorem ew_and1 {p : Bool} (h : Et F a ρ p) : Ew F (.BoolOp .And [a] pos) ρ p := let ⟨τ, x, y⟩ := h; ⟨τ, fun i => pw_and1 (x i), y⟩
theorem ew_or1 {p : Bool} (h : Et F a ρ p) : Ew F (.BoolOp .Or [a] pos) ρ p := let ⟨τ, x, y⟩ := h; ⟨τ, fun i => pw_or1 (x i), y⟩
theorem ew_and {p q : Bool} {rest : List Expr} (h : Et F a ρ p) (h2 : p = true → Ew F (.BoolOp .And (b :: rest) pos) ρ q) : Ew F (.BoolOp .And (a :: b :: rest) pos) ρ (p && q) := by
  obtain ⟨τ, x, y⟩ := h
  cases p with
  | false => exact ⟨tAnd τ _, fun i => pw_and (x i) pw_never, fun σ G H Q s r k => y σ G H _ s r fun G' H' st => iteF (k G' H' st)⟩
  | true =>
    obtain ⟨τ', x', y'⟩ := h2 rfl
    exact ⟨tAnd τ τ', fun i => pw_and (x i) (x' i), fun σ G H Q s r k => y σ G H _ s r fun G1 H1 s1 => iteT (y' σ G1 H1 _ s1.s (r.mono s1.g) fun G2 H2 s2 => k G2 H2 (s1.trans s2))⟩
theorem ew_or {p q : Bool} {rest : List Expr} (h : Et F a ρ p) (h2 : p = false → Ew F (.BoolOp .Or (b :: rest) pos) ρ q) : Ew F (.BoolOp .Or (a :: b :: rest) pos) ρ (p || q) := by
  obtain ⟨τ, x, y⟩ := h
  cases p with
  | true => exact ⟨tOr τ _, fun i => pw_or (x i) pw_never, fun σ G H Q s r k => y σ G H _ s r fun G' H' st => iteT (k G' H' st)⟩
  | false =>
    obtain ⟨τ', x', y'⟩ := h2 rfl
    exact ⟨tOr τ τ', fun i => pw_or (x i) (x' i), fun σ G H Q s r k => y σ G H _ s r fun G1 H1 s1 => iteF (y' σ G1 H1 _ s1.s (r.mono s1.g) fun G2 H2 s2 => k G2 H2 (s1.trans s2))⟩
theorem et_not {p : Bool} (h : Et F a ρ p) : Et F (.UnaryOp .Not a pos) ρ (!p) := by
  obtain ⟨τ, x, y⟩ := h
  exact ⟨tNot τ, fun i => pt_not (x i), fun σ G H Q s r k => y σ G H _ s r k⟩
theorem pe_never {X : Cx} : PE X e (fun _ _ _ => False) := fun _ _ _ _ _ _ h => h.elim
theorem ev_one {op : BoolOp} {t : Tr} (h : Ev F a ρ t) : Ev F (.BoolOp op [a] pos) ρ t := let ⟨τ, x, y⟩ := h; ⟨τ, fun i => pe_one (x i), y⟩
theorem ev_and {p q : Bool} {rest : List Expr} (h : Ev F a ρ (tb p)) (h2 : p = true → Ev F (.BoolOp .And (b :: rest) pos) ρ (tb q)) : Ev F (.BoolOp .And (a :: b :: rest) pos) ρ (tb (p && q)) := by
  obtain ⟨τ, x, y⟩ := h.use
  cases p with
  | false => exact ⟨tAndV τ _, fun i => pe_and (x i) pe_never, fun σ G H Q s r k => y σ G H _ s r fun v G' H' st hv => ⟨false, hvi hv, iteF ((k.step st).sc st.s rfl)⟩⟩
  | true =>
    obtain ⟨τ', x', y'⟩ := h2 rfl
    exact ⟨tAndV τ τ', fun i => pe_and (x i) (x' i), fun σ G H Q s r k => y σ G H _ s r fun v G1 H1 s1 hv => ⟨true, hvi hv, iteT (y' σ G1 H1 _ s1.s (r.mono s1.g) (k.step s1))⟩⟩
theorem ev_or {p q : Bool} {rest : List Expr} (h : Ev F a ρ (tb p)) (h2 : p = false → Ev F (.BoolOp .Or (b :: rest) pos) ρ (tb q)) : Ev F (.BoolOp .Or (a :: b :: rest) pos) ρ (tb (p || q)) := by
  obtain ⟨τ, x, y⟩ := h.use
  cases p with
  | true => exact ⟨tOrV τ _, fun i => pe_or (x i) pe_never, fun σ G H Q s r k => y σ G H _ s r fun v G' H' st hv => ⟨true, hvi hv, iteT ((k.step st).sc st.s rfl)⟩⟩
  | false =>
    obtain ⟨τ', x', y'⟩ := h2 rfl
    exact ⟨tOrV τ τ', fun i => pe_or (x i) (x' i), fun σ G H Q s r k => y σ G H _ s r fun v G1 H1 s1 hv => ⟨false, hvi hv, iteF (y' σ G1 H1 _ s1.s (r.mono s1.g) (k.step s1))⟩⟩
theorem ev_lst (h : EvA F es ρ ts) (hz : ts.length ≤ sizeLine) : Ev F (.List es pos) ρ (.ow ts) := by
  obtain ⟨τ, x, y⟩ := h
  refine ⟨tLst τ, fun i => pe_lst (x i), fun σ G H Q s r k => y σ G H _ s r fun vs G1 H1 fq s1 o w => ⟨by rw [← o.length]; exact hz, fun p hp => ?_⟩⟩
  have np : p ∉ fq := fun z => by
    obtain ⟨u, hu⟩ := o.there p z
    rw [hp] at hu; cases hu
  exact k (.ref p) G1 _ (p :: fq) (s1.trans (.newO s1.s hp)) ⟨p, vs, fq, rfl, upd_same, o.mono (Same.refl _) (Same.new hp), rfl⟩
    ⟨fun a ha => (List.mem_cons.mp ha).elim (fun z => by rw [z]; exact s1.h.free hp) (w.n a), fun a ha => (List.mem_cons.mp ha).elim (fun z => by rw [z]; exact s1.s.free hp) (w.g a), List.nodup_cons.mpr ⟨np, w.d⟩⟩
theorem ev_tup {x1} (h : EvA F es ρ ts) (hz : ts.length ≤ sizeLine) : Ev F (.Tuple es x1 pos) ρ (.tp ts) := by
  obtain ⟨τ, x, y⟩ := h
  refine ⟨tTup τ, fun i => pe_tup (x i), fun σ G H Q s r k => y σ G H _ s r fun vs G1 H1 fq s1 o w => ⟨by rw [← o.length]; exact hz, fun p hp => ?_⟩⟩
  have np : p ∉ fq := fun z => by
    obtain ⟨u, hu⟩ := o.there p z
    rw [hp] at hu; cases hu
  exact k (.ref p) G1 _ (p :: fq) (s1.trans (.newO s1.s hp)) ⟨p, vs, fq, rfl, upd_same, o.mono (Same.refl _) (Same.new hp), rfl⟩
    ⟨fun a ha => (List.mem_cons.mp ha).elim (fun z => by rw [z]; exact s1.h.free hp) (w.n a), fun a ha => (List.mem_cons.mp ha).elim (fun z => by rw [z]; exact s1.s.free hp) (w.g a), List.nodup_cons.mpr ⟨np, w.d⟩⟩
theorem ev_tupD {x1} {dd : List Dv} (h : EvA F es ρ ts) (ed : ers ts = dd) (hz : ts.length ≤ sizeLine) : Ev F (.Tuple es x1 pos) ρ (.fz (.tup dd)) := ed ▸ (ev_tup h hz).fz
theorem HvL.get {K : PySem.W.Frag} {G : Hp} : ∀ {ds : List Dv} {vs : List V} {j : Nat} {d : Dv}, HvL K G ds vs → ds[j]? = some d → ∃ v, vs[j]? = some v ∧ Hv K G d v
  | _ :: _, _, 0, _, ⟨x, r, h1, h2, h3⟩, h => by cases h; subst h1; exact ⟨x, rfl, h2⟩
  | _ :: _, _, j + 1, d, ⟨x, r, h1, h2, h3⟩, h => by
    subst h1
    obtain ⟨v, q1, q2⟩ := HvL.get (j := j) h3 h
    exact ⟨v, q1, q2⟩
theorem HvL.at {K : PySem.W.Frag} {G : Hp} {ds : List Dv} {vs : List V} {k : Int} {d : Dv} (h : HvL K G ds vs) (hk : atI ds k = some d) : ∃ v, atI vs k = some v ∧ Hv K G d v := by
  unfold atI at hk ⊢
  rw [← h.length]
  cases q : ixN ds.length k with
  | none => rw [q] at hk; cases hk
  | some j => rw [q] at hk; exact h.get hk
theorem ev_ix {xs : List Dv} {k : Int} {d : Dv} (ha : Ev F a ρ ta) (hb : Ev F b ρ (ti k)) (ea : er ta = .lst xs) (hk : atI xs k = some d) (hs : PlainIx b := by exact fun _ _ => rfl) : Ev F (.Subscript a b pos) ρ (.fz d) := by
  obtain ⟨τ, p, q⟩ := ha.use
  obtain ⟨τ', p', q'⟩ := hb.use
  refine ⟨tOp (rIxL F.K) τ τ', fun i => pe_ix (ix_listK (F.hK i)) (p i) (p' i) hs, fun σ G H Q s rr k => ?_⟩
  refine q σ G H _ s rr fun x G1 H1 s1 hx => q' σ G1 H1 _ s1.s (rr.mono s1.g) fun y G2 H2 s2 hy => ?_
  rw [ea] at hx
  obtain ⟨l, vs, rfl, h1, h2⟩ := hx
  obtain ⟨v, h3, h4⟩ := h2.at hk
  exact ⟨l, vs, _, v, rfl, hvi hy, (s2.g.trans s2.s).seq h1, h3, (k.step (s1.trans s2)).dat s2.s (h4.mono s2.g)⟩
theorem ev_ixT {xs : List Dv} {k : Int} {d : Dv} (ha : Ev F a ρ ta) (hb : Ev F b ρ (ti k)) (ea : er ta = .tup xs) (hk : atI xs k = some d) (hs : PlainIx b := by exact fun _ _ => rfl) : Ev F (.Subscript a b pos) ρ (.fz d) := by
  obtain ⟨τ, p, q⟩ := ha.use
  obtain ⟨τ', p', q'⟩ := hb.use
  refine ⟨tOp (rIxT F.K) τ τ', fun i => pe_ix (ix_tupK (F.hK i)) (p i) (p' i) hs, fun σ G H Q s rr k => ?_⟩
  refine q σ G H _ s rr fun x G1 H1 s1 hx => q' σ G1 H1 _ s1.s (rr.mono s1.g) fun y G2 H2 s2 hy => ?_
  rw [ea] at hx
  obtain ⟨l, vs, rfl, h1, h2⟩ := hx
  obtain ⟨v, h3, h4⟩ := h2.at hk
  exact ⟨l, vs, _, v, rfl, hvi hy, (s2.g.trans s2.s).tup h1, h3, (k.step (s1.trans s2)).dat s2.s (h4.mono s2.g)⟩
def cutD {α : Type} (xs : List α) (lo hi : Option Int) : List α := (xs.drop (HT.sIx xs.length 0 lo)).take (HT.sIx xs.length xs.length hi - HT.sIx xs.length 0 lo)
theorem HvL.drop {K : PySem.W.Frag} {G : Hp} : ∀ {ds : List Dv} {vs : List V} (n : Nat), HvL K G ds vs → HvL K G (ds.drop n) (vs.drop n)
  | ds, vs, 0, h => h
  | [], _, n + 1, h => by rw [show _ = [] from h]; exact rfl
  | _ :: _, _, n + 1, ⟨x, r, h1, h2, h3⟩ => by subst h1; exact HvL.drop n h3
theorem HvL.take {K : PySem.W.Frag} {G : Hp} : ∀ {ds : List Dv} {vs : List V} (n : Nat), HvL K G ds vs → HvL K G (ds.take n) (vs.take n)
  | ds, vs, 0, h => by simp only [List.take_zero]; exact rfl
  | [], _, n + 1, h => by rw [show _ = [] from h]; exact rfl
  | _ :: _, _, n + 1, ⟨x, r, h1, h2, h3⟩ => by subst h1; exact ⟨x, r.take n, rfl, h2, HvL.take n h3⟩
theorem HvL.cut {K : PySem.W.Frag} {G : Hp} {ds : List Dv} {vs : List V} (h : HvL K G ds vs) (lo hi : Option Int) : HvL K G (cutD ds lo hi) (cutV vs lo hi) := by
  unfold cutD cutV
  rw [h.length]
  exact (h.drop _).take _
def Eo (F : Fam ι) (e : Option Expr) (ρ : En) (o : Option Int) : Prop := ∃ τ : TO, (∀ i, PO (F.cx i) e τ) ∧ ∀ σ G H Q, Same G H → RpD F.K G ρ σ → (∀ G' H', Step G H G' H' → Q o H') → τ σ H Q
theorem eo_none : Eo F none ρ none := ⟨tNoPart, fun _ => po_none, fun σ G H Q s r k => k G H (.refl s)⟩
theorem eo_some {n : Int} (h : Ev F e ρ (ti n)) : Eo F (some e) ρ (some n) := by
  obtain ⟨τ, x, y⟩ := h.use
  exact ⟨tPart τ, fun i => po_some (x i), fun σ G H Q s r k => y σ G H _ s r fun v G' H' st hv => ⟨n, hvi hv, k G' H' st⟩⟩
theorem ev_slice {lo hi : Option Expr} {l u : Option Int} {xs : List Dv} {p2 : Pos} (ha : Ev F a ρ ta) (ea : er ta = .lst xs) (hl : Eo F lo ρ l) (hu : Eo F hi ρ u) : Ev F (.Subscript a (.Slice lo hi none p2) pos) ρ (.ow ((cutD xs l u).map .fz)) := by
  obtain ⟨τ, p, q⟩ := ha.use
  obtain ⟨τ1, p1, q1⟩ := hl
  obtain ⟨τ2, p2', q2⟩ := hu
  refine ⟨tSl (rSlL F.K) τ τ1 τ2, fun i => pe_slice (F.hK i ▸ sl_list) (p i) (p1 i) (p2' i), fun σ G H Q s rr k => ?_⟩
  refine q σ G H _ s rr fun x G1 H1 s1 hx => q1 σ G1 H1 _ s1.s (rr.mono s1.g) fun G2 H2 s2 => q2 σ G2 H2 _ s2.s (rr.mono (s1.trans s2).g) fun G3 H3 s3 => ?_
  rw [ea] at hx
  obtain ⟨b, vs, rfl, h1, h2⟩ := hx
  have st := s2.trans s3
  exact ⟨b, vs, rfl, (st.g.trans st.s).seq h1, fun p hp => (k.step (s1.trans st)).lst st.s ((h2.mono st.g).cut l u).owl hp⟩
theorem ev_callB {id : String} {x : Str} {r : List V → Hp → VK → Prop} (hc : ∀ i, CallR (F.cx i) (.builtin id) r) (hm : F.mg x = none) (hv : bootBuiltins x = some (.builtin id)) (ha : EvA F (e :: es) ρ ts)
    (h : ∀ G H xs Q, Same G H → HvL F.K G (ers ts) xs → Kv F.K G H t Q → r xs H Q) {p' : Pos} (hg : ∀ i, Gl (F.cx i) x := by intro _; rfl) (hn : x ≠ "__name__" := by decide) (hdb : (x == ("__debug__" : Str)) = false := by decide)
    (he : ∀ i, starEach (e :: es) (F.cx i).env = (false, eval e (F.cx i).env) :: starEach es (F.cx i).env := by intro _; rfl) (hpl : ∀ i, (backTo pos (starEach es (F.cx i).env)).any (·.1) = false := by intro _; rfl) : Ev F (.Call (.Name x p') (e :: es) [] pos) ρ t := by
  obtain ⟨τ, y, z⟩ := ha.use
  refine ⟨tCB r τ, fun i => pe_callB (hc i) (hg i) ((F.hm i).symm ▸ hm) hv (y i) hn hdb (he i) (hpl i), fun σ G H Q s rr k => z σ G H _ s rr fun vs G1 H1 s1 hx => ?_⟩
  exact h G1 H1 vs Q s1.s hx (k.step s1)
theorem ev_callT {T : String} {x : Str} {r : List V → Hp → VK → Prop} (hc : ∀ i, CallR (F.cx i) (.type T) r) (hm : F.mg x = none) (hv : bootBuiltins x = some (.type T)) (ha : EvA F (e :: es) ρ ts)
    (h : ∀ G H xs Q, Same G H → HvL F.K G (ers ts) xs → Kv F.K G H t Q → r xs H Q) {p' : Pos} (hg : ∀ i, Gl (F.cx i) x := by intro _; rfl) (hn : x ≠ "__name__" := by decide) (hdb : (x == ("__debug__" : Str)) = false := by decide)
    (he : ∀ i, starEach (e :: es) (F.cx i).env = (false, eval e (F.cx i).env) :: starEach es (F.cx i).env := by intro _; rfl) (hpl : ∀ i, (backTo pos (starEach es (F.cx i).env)).any (·.1) = false := by intro _; rfl) : Ev F (.Call (.Name x p') (e :: es) [] pos) ρ t := by
  obtain ⟨τ, y, z⟩ := ha.use
  refine ⟨tCB r τ, fun i => pe_callTy (hc i) (hg i) ((F.hm i).symm ▸ hm) hv (y i) hn hdb (he i) (hpl i), fun σ G H Q s rr k => z σ G H _ s rr fun vs G1 H1 s1 hx => ?_⟩
  exact h G1 H1 vs Q s1.s hx (k.step s1)
theorem hvl1 {K : PySem.W.Frag} {G : Hp} {d : Dv} {xs : List V} (h : HvL K G [d] xs) : ∃ x, xs = [x] ∧ Hv K G d x := by
  obtain ⟨x, r, h1, h2, h3⟩ := h
  exact ⟨x, by rw [h1, show r = [] from h3], h2⟩
theorem ev_len {xs : List Dv} (hm : F.mg "len" = none) (ha : Ev F e ρ ta) (ea : er ta = .lst xs ∨ er ta = .tup xs) {p' : Pos} (hg : ∀ i, Gl (F.cx i) "len" := by intro _; rfl)
    (hs : ∀ i, starEach [e] (F.cx i).env = [(false, eval e (F.cx i).env)] := by intro _; rfl) : Ev F (.Call (.Name "len" p') [e] [] pos) ρ (ti xs.length) :=
  ev_callB (r := fun xs H Q => ∃ p ys, xs = [.ref p] ∧ (SqL F.K H p ys ∨ SqT F.K H p ys) ∧ Q (.int ys.length) H) (fun i => call_lenK (F.hK i)) hm bt_len (eva_cons ha eva_nil hs) (fun G H vs Q s hx k => by
    obtain ⟨x, rfl, hxx⟩ := hvl1 hx
    replace hx := hxx
    rcases ea with ea | ea
    · rw [ea] at hx
      obtain ⟨l, ys, rfl, h1, h2⟩ := hx
      exact ⟨l, ys, rfl, .inl (s.seq h1), by rw [← h2.length]; exact k.sc s rfl⟩
    · rw [ea] at hx
      obtain ⟨l, ys, rfl, h1, h2⟩ := hx
      exact ⟨l, ys, rfl, .inr (s.tup h1), by rw [← h2.length]; exact k.sc s rfl⟩) hg (by decide) (by decide) hs (fun _ => rfl)
theorem ev_list {xs : List Dv} (hm : F.mg "list" = none) (ha : Ev F e ρ ta) (ea : er ta = .lst xs ∨ er ta = .tup xs) {p' : Pos} (hg : ∀ i, Gl (F.cx i) "list" := by intro _; rfl)
    (hs : ∀ i, starEach [e] (F.cx i).env = [(false, eval e (F.cx i).env)] := by intro _; rfl) : Ev F (.Call (.Name "list" p') [e] [] pos) ρ (.ow (xs.map .fz)) :=
  ev_callT (r := fun xs H Q => ∃ p ys, xs = [.ref p] ∧ (SqL F.K H p ys ∨ SqT F.K H p ys) ∧ ∀ l, H l = none → Q (.ref l) (upd H l (.lst ys))) (fun i => F.hK i ▸ call_list_of) hm bt_list (eva_cons ha eva_nil hs) (fun G H vs Q s hx k => by
    obtain ⟨x, rfl, hxx⟩ := hvl1 hx
    replace hx := hxx
    rcases ea with ea | ea
    · rw [ea] at hx
      obtain ⟨l, ys, rfl, h1, h2⟩ := hx
      exact ⟨l, ys, rfl, .inl (s.seq h1), fun p hp => k.lst s h2.owl hp⟩
    · rw [ea] at hx
      obtain ⟨l, ys, rfl, h1, h2⟩ := hx
      exact ⟨l, ys, rfl, .inr (s.tup h1), fun p hp => k.lst s h2.owl hp⟩) hg (by decide) (by decide) hs (fun _ => rfl)
def tyD : Dv → Value
  | .fl .non => .type "NoneType"
  | .fl (.bl _) => .type "bool"
  | .fl (.int _) => .type "int"
  | .fl (.str _) => .type "str"
  | .fl _ => .none
  | .lst _ => .type "list"
  | .tup _ => .type "tuple"
def rIsD (K : PySem.W.Frag) (d : Dv) (n : String) (b : Bool) : List V → Hp → VK → Prop := fun xs H Q => ∃ x, xs = [x, .ty n] ∧ Hv K H d x ∧ PySem.W.kitOne K (tyD d) (.type n) = some b ∧ Q (.bl b) H
theorem call_isD {X : Cx} {d : Dv} {n : String} {b : Bool} : CallR X (.builtin "isinstance") (rIsD X.K d n b) := by
  intro pins s σ H xs us Q I r h
  obtain ⟨x, rfl, hx, hb, q⟩ := h
  cases r with
  | cons r1 rr => cases rr with
    | cons r2 rr =>
      cases rr
      cases (show _ = Value.type n from r2)
      have fin : ∀ tk, EP X pins σ Q (.bool b) { s with toks := tk } := fun tk => ⟨.bl b, H, I.tok tk, rfl, q⟩
      cases d with
      | fl v =>
        obtain ⟨rfl, f⟩ := hx
        cases x with
        | non => exact isinst_ok I r1 .non hb fin
        | bl y => exact isinst_ok I r1 (.bl y) hb fin
        | int y => exact isinst_ok I r1 (.int y) hb fin
        | str y => exact isinst_ok I r1 (.str y) hb fin
        | byt y => cases f
        | flt y => cases f
        | ref y => cases f
        | ty y => cases f
      | lst ds =>
        obtain ⟨a, xs, rfl, h1, _⟩ := hx
        cases r1
        obtain ⟨its, _, ⟨o, n, h2, h3, _⟩, _⟩ := I.list h1
        exact PySem.W.kia_one PySem.W.kitx_list I.kIn ⟨o, h2, h3⟩ hb (fun z => nomatch z) fin
      | tup ds =>
        obtain ⟨a, xs, rfl, h1, _⟩ := hx
        cases r1
        obtain ⟨its, _, ⟨o, h2, h3, _⟩, _⟩ := I.tuple h1
        exact PySem.W.kia_one PySem.W.kitx_tuple I.kIn ⟨o, h2, h3⟩ hb (fun z => nomatch z) fin
theorem ev_isi {x : Str} {n : String} {bo : Bool} (hm : F.mg "isinstance" = none) (hm2 : F.mg x = none) (hv : bootBuiltins x = some (.type n)) (ha : Ev F e ρ ta) (hk : PySem.W.kitOne F.K (tyD (er ta)) (.type n) = some bo) {p' p2 : Pos} (hg : ∀ i, Gl (F.cx i) "isinstance" := by intro _; rfl)
    (hg2 : ∀ i, Gl (F.cx i) x := by intro _; rfl) (hn : x ≠ "__name__" := by decide) (hd : (x == ("__debug__" : Str)) = false := by decide)
    (hs : ∀ i, starEach [e, .Name x p2] (F.cx i).env = [(false, eval e (F.cx i).env), (false, eval (.Name x p2) (F.cx i).env)] := by intro _; rfl) : Ev F (.Call (.Name "isinstance" p') [e, .Name x p2] [] pos) ρ (tb bo) := by
  obtain ⟨τ, y, z⟩ := ha.use
  refine ⟨tCB (rIsD F.K (er ta) n bo) (tCons τ (tCons (tC (.ty n)) tNil)), fun i => pe_callB (F.hK i ▸ call_isD) (hg i) ((F.hm i).symm ▸ hm) bt_isinstance (pa_cons (y i) (pa_cons (pe_bltn (v := .ty n) (hg2 i) ((F.hm i).symm ▸ hm2) hv rfl hn hd) pa_nil rfl) (hs i)) (by decide) (by decide) (hs i) rfl, fun σ G H Q s rr k => z σ G H _ s rr fun vs G1 H1 s1 hx => ?_⟩
  exact ⟨vs, rfl, hx.mono s1.s, hk, (k.step s1).sc s1.s rfl⟩
def spT (K : PySem.W.Frag) (R : List Dv → Tr → Prop) : Sp := fun vs H Q _ => ∃ G ds t, Same G H ∧ HvL K G ds vs ∧ R ds t ∧ Kv K G H t Q
theorem ev_call {k : Nat} {f : Addr} {fd : FuncData} {ps : List Str} {R : List Dv → Tr → Prop} {x : Str} (Fn : Kn F.P F.w F.K F.mg F.base CX0 k x f fd ps (spT F.K R)) (hk : k ≤ F.room) (ha : EvA F (e :: es) ρ ts) (hR : R (ers ts) t) {p' : Pos} (hg : ∀ i, Gl (F.cx i) x := by intro _; rfl) (hdb : (x == ("__debug__" : Str)) = false := by decide)
    (he : ∀ i, starEach (e :: es) (F.cx i).env = (false, eval e (F.cx i).env) :: starEach es (F.cx i).env := by intro _; rfl) (hpl : ∀ i, (backTo pos (starEach es (F.cx i).env)).any (·.1) = false := by intro _; rfl) : Ev F (.Call (.Name x p') (e :: es) [] pos) ρ t := by
  obtain ⟨τ, y, z⟩ := ha.use
  refine ⟨tCall (spT F.K R) [] E0 τ, fun i => ?_, fun σ G H Q s rr k => z σ G H _ s rr fun vs G1 H1 s1 hx => ?_⟩
  · have Fn' : Kn (F.cx i).prog (F.cx i).w (F.cx i).K (F.cx i).mg (F.cx i).base CX0 k x f fd ps (spT F.K R) := by
      rw [F.hP i, F.hw i, F.hK i, F.hm i, F.hb i]
      exact Fn
    exact pe_kn Fn' ((F.hr i).mono hk) (hg i) (y i) hdb (he i) (hpl i)
  · show spT F.K R (vs ++ []) H1 Q E0
    rw [List.append_nil]
    exact ⟨G1, _, t, s1.s, hx, hR, k.step s1⟩
end
end L2
namespace L2
open PySem PySem.Spec PyProof.Rows
def OwS (K : PySem.W.Frag) (G H : Hp) : En → St → List Addr → Prop
  | [], σ, fp => σ = [] ∧ fp = []
  | none :: ρ, σ, fp => ∃ o r, σ = o :: r ∧ OwS K G H ρ r fp
  | some t :: ρ, σ, fp => ∃ v r f1 f2, σ = some v :: r ∧ fp = f1 ++ f2 ∧ Ow K G H t v f1 ∧ OwS K G H ρ r f2
theorem OwS.mono {K : PySem.W.Frag} {G G' H H' : Hp} (e : Same G G') (e' : Same H H') : ∀ {ρ : En} {σ : St} {fp : List Addr}, OwS K G H ρ σ fp → OwS K G' H' ρ σ fp
  | [], _, _, h => h
  | none :: _, _, _, ⟨o, r, h1, h2⟩ => ⟨o, r, h1, OwS.mono e e' h2⟩
  | some _ :: _, _, _, ⟨v, r, f1, f2, h1, h2, h3, h4⟩ => ⟨v, r, f1, f2, h1, h2, h3.mono e e', OwS.mono e e' h4⟩
theorem OwS.frame {K : PySem.W.Frag} {G H : Hp} {a : Addr} {o : HO} : ∀ {ρ : En} {σ : St} {fp : List Addr}, OwS K G H ρ σ fp → a ∉ fp → OwS K G (upd H a o) ρ σ fp
  | [], _, _, h, _ => h
  | none :: _, _, _, ⟨o, r, h1, h2⟩, n => ⟨o, r, h1, OwS.frame h2 n⟩
  | some _ :: _, _, _, ⟨v, r, f1, f2, h1, h2, h3, h4⟩, n => by
    subst h2
    exact ⟨v, r, f1, f2, h1, rfl, h3.frame fun z => n (List.mem_append_left _ z), OwS.frame h4 fun z => n (List.mem_append_right _ z)⟩
theorem OwS.there {K : PySem.W.Frag} {G H : Hp} : ∀ {ρ : En} {σ : St} {fp : List Addr}, OwS K G H ρ σ fp → ∀ a ∈ fp, ∃ o, H a = some o
  | [], _, _, ⟨_, h⟩, a, ha => by subst h; cases ha
  | none :: _, _, _, ⟨o, r, h1, h2⟩, a, ha => OwS.there h2 a ha
  | some _ :: _, _, _, ⟨v, r, f1, f2, h1, h2, h3, h4⟩, a, ha => by
    subst h2
    rcases List.mem_append.mp ha with ha | ha
    · exact h3.there a ha
    · exact OwS.there h4 a ha
theorem OwS.off {K : PySem.W.Frag} {G H G1 H1 : Hp} {ρ : En} {σ : St} {fp : List Addr} (r : OwS K G H ρ σ fp) (s1 : Step G H G1 H1) (g : ∀ a ∈ fp, G a = none) : ∀ a ∈ fp, G1 a = none := fun a ha => by
  cases q : G1 a with
  | none => rfl
  | some u =>
    obtain ⟨u', hu'⟩ := r.there a ha
    have := s1.n a (g a ha) (by rw [q]; exact fun z => nomatch z)
    rw [hu'] at this
    cases this
theorem OwS.rpd {K : PySem.W.Frag} {G H : Hp} : ∀ {ρ : En} {σ : St} {fp : List Addr}, OwS K G H ρ σ fp → RpD K G ρ σ
  | [], _, _, _, j, d, h => by cases j <;> cases h
  | none :: _, _, _, ⟨o, r, h1, h2⟩, 0, d, h => by cases h
  | none :: _, _, _, ⟨o, r, h1, h2⟩, j + 1, d, h => by subst h1; exact OwS.rpd h2 j d h
  | some _ :: _, _, _, ⟨v, r, f1, f2, h1, h2, h3, h4⟩, 0, d, h => by cases h; subst h1; exact ⟨v, rfl, h3.2⟩
  | some _ :: _, _, _, ⟨v, r, f1, f2, h1, h2, h3, h4⟩, j + 1, d, h => by subst h1; exact OwS.rpd h4 j d h
def pk (ρ : En) : En := ρ.map (Option.map fun t => .fz (er t))
theorem OwS.pk {K : PySem.W.Frag} {G H G' : Hp} (e : Same G G') : ∀ {ρ : En} {σ : St} {fp : List Addr}, OwS K G H ρ σ fp → (∀ a ∈ fp, G' a = H a) → RpD K G' (pk ρ) σ
  | [], _, _, _, _, j, d, h => by cases j <;> cases h
  | none :: _, _, _, ⟨o, r, h1, h2⟩, _, 0, d, h => by cases h
  | none :: _, _, _, ⟨o, r, h1, h2⟩, q, j + 1, d, h => by subst h1; exact OwS.pk e h2 q j d h
  | some _ :: _, _, _, ⟨v, r, f1, f2, h1, h2, h3, h4⟩, q, 0, d, h => by
    cases h; subst h1 h2; exact ⟨v, rfl, h3.hv e fun a ha => q a (List.mem_append_left _ ha)⟩
  | some _ :: _, _, _, ⟨v, r, f1, f2, h1, h2, h3, h4⟩, q, j + 1, d, h => by
    subst h1 h2; exact OwS.pk e h4 (fun a ha => q a (List.mem_append_right _ ha)) j d h
theorem OwS.split {K : PySem.W.Frag} {G H : Hp} : ∀ {ρ : En} {σ : St} {fp : List Addr} {j : Nat} {t : Tr}, OwS K G H ρ σ fp → ρ[j]? = some (some t) →
    ∃ v f fr, σ[j]? = some (some v) ∧ Ow K G H t v f ∧ OwS K G H (ρ.set j none) σ fr ∧ fp.Perm (f ++ fr)
  | none :: _, _, _, 0, _, _, h => by cases h
  | none :: _, _, _, j + 1, t, ⟨o, r, h1, h2⟩, h => by
    subst h1
    obtain ⟨v, f, fr, q1, q2, q3, q4⟩ := OwS.split (j := j) h2 h
    exact ⟨v, f, fr, q1, q2, ⟨o, r, rfl, q3⟩, q4⟩
  | some _ :: _, _, _, 0, t, ⟨v, r, f1, f2, h1, h2, h3, h4⟩, h => by
    cases h; subst h1 h2
    exact ⟨v, f1, f2, rfl, h3, ⟨some v, r, rfl, h4⟩, .refl _⟩
  | some _ :: _, _, _, j + 1, t, ⟨v, r, f1, f2, h1, h2, h3, h4⟩, h => by
    subst h1 h2
    obtain ⟨v', f, fr, q1, q2, q3, q4⟩ := OwS.split (j := j) h4 h
    refine ⟨v', f, f1 ++ fr, q1, q2, ⟨v, r, f1, fr, rfl, rfl, h3, q3⟩, ?_⟩
    refine (List.Perm.append_left f1 q4).trans ?_
    rw [← List.append_assoc, ← List.append_assoc]
    exact List.Perm.append_right fr List.perm_append_comm
theorem OwS.forget {K : PySem.W.Frag} {G H : Hp} : ∀ {ρ : En} {σ : St} {fp : List Addr} (j : Nat), OwS K G H ρ σ fp → ∃ fr, OwS K G H (ρ.set j none) σ fr ∧ fr.Sublist fp
  | [], _, _, _, h => ⟨_, h, .refl _⟩
  | none :: _, _, _, 0, ⟨o, r, h1, h2⟩ => ⟨_, ⟨o, r, h1, h2⟩, .refl _⟩
  | none :: _, _, _, j + 1, ⟨o, r, h1, h2⟩ => by
    obtain ⟨fr, q1, q2⟩ := OwS.forget j h2
    exact ⟨fr, ⟨o, r, h1, q1⟩, q2⟩
  | some _ :: _, _, _, 0, ⟨v, r, f1, f2, h1, h2, h3, h4⟩ => ⟨f2, ⟨some v, r, h1, h4⟩, h2 ▸ List.sublist_append_right _ _⟩
  | some _ :: _, _, _, j + 1, ⟨v, r, f1, f2, h1, h2, h3, h4⟩ => by
    obtain ⟨fr, q1, q2⟩ := OwS.forget j h4
    exact ⟨f1 ++ fr, ⟨v, r, f1, fr, h1, rfl, h3, q1⟩, h2 ▸ List.Sublist.append (.refl _) q2⟩
theorem OwS.put {K : PySem.W.Frag} {G H : Hp} : ∀ {ρ : En} {σ : St} {fr : List Addr} {j : Nat} {t : Tr} {v : V} {f : List Addr}, OwS K G H ρ σ fr → ρ[j]? = some none → Ow K G H t v f →
    ∃ fp, OwS K G H (ρ.set j (some t)) (σ.set j (some v)) fp ∧ fp.Perm (f ++ fr)
  | none :: _, _, fr, 0, t, v, f, ⟨o, r, h1, h2⟩, _, w => by subst h1; exact ⟨_, ⟨v, r, f, fr, rfl, rfl, w, h2⟩, .refl _⟩
  | none :: _, _, _, j + 1, t, v, f, ⟨o, r, h1, h2⟩, h, w => by
    subst h1
    obtain ⟨fp, q1, q2⟩ := OwS.put (j := j) h2 h w
    exact ⟨fp, ⟨o, _, rfl, q1⟩, q2⟩
  | some _ :: _, _, _, 0, _, _, _, _, h, _ => by cases h
  | some _ :: _, _, _, j + 1, t, v, f, ⟨v', r, f1, f2, h1, h2, h3, h4⟩, h, w => by
    subst h1 h2
    obtain ⟨fp, q1, q2⟩ := OwS.put (j := j) h4 h w
    refine ⟨f1 ++ fp, ⟨v', _, f1, fp, rfl, rfl, h3, q1⟩, ?_⟩
    refine (List.Perm.append_left f1 q2).trans ?_
    rw [← List.append_assoc, ← List.append_assoc]
    exact List.Perm.append_right f2 List.perm_append_comm
theorem OwS.len {K : PySem.W.Frag} {G H : Hp} : ∀ {ρ : En} {σ : St} {fp : List Addr}, OwS K G H ρ σ fp → ρ.length = σ.length
  | [], _, _, ⟨h, _⟩ => by rw [h]; rfl
  | none :: _, _, _, ⟨o, r, h1, h2⟩ => by subst h1; rw [List.length_cons, List.length_cons, OwS.len h2]
  | some _ :: _, _, _, ⟨v, r, f1, f2, h1, h2, h3, h4⟩ => by subst h1; rw [List.length_cons, List.length_cons, OwS.len h4]
structure RSf (K : PySem.W.Frag) (G0 H0 G H : Hp) (ρ : En) (σ : St) (fp : List Addr) : Prop where
  st : Step G0 H0 G H
  own : OwS K G H ρ σ fp
  g : ∀ a ∈ fp, G a = none
  n : ∀ a ∈ fp, H0 a = none
  d : fp.Nodup
def RS (K : PySem.W.Frag) (G0 H0 G H : Hp) (ρ : En) (σ : St) : Prop := ∃ fp, RSf K G0 H0 G H ρ σ fp
theorem get_set_none {α : Type} {ρ : List (Option α)} {j : Nat} (h : j < ρ.length) : (ρ.set j none)[j]? = some none := by rw [List.getElem?_set]; simp [h]
theorem RSf.forget {K : PySem.W.Frag} {G0 H0 G H : Hp} {ρ : En} {σ : St} {fp : List Addr} (r : RSf K G0 H0 G H ρ σ fp) (j : Nat) : ∃ fr, RSf K G0 H0 G H (ρ.set j none) σ fr ∧ fr.Sublist fp := by
  obtain ⟨fr, q1, q2⟩ := r.own.forget j
  exact ⟨fr, ⟨r.st, q1, fun a ha => r.g a (q2.subset ha), fun a ha => r.n a (q2.subset ha), r.d.sublist q2⟩, q2⟩
theorem RS.forget {K : PySem.W.Frag} {G0 H0 G H : Hp} {ρ : En} {σ : St} (r : RS K G0 H0 G H ρ σ) (j : Nat) : RS K G0 H0 G H (ρ.set j none) σ := by
  obtain ⟨fp, r⟩ := r
  obtain ⟨fr, q, _⟩ := r.forget j
  exact ⟨fr, q⟩
theorem RSf.set {K : PySem.W.Frag} {G0 H0 G H G1 H1 : Hp} {ρ : En} {σ : St} {fp fq : List Addr} {j : Nat} {t : Tr} {v : V} (r : RSf K G0 H0 G H ρ σ fp) (hj : j < ρ.length) (e : Step G H G1 H1) (o : Ow K G1 H1 t v fq) (w : Nw H G1 fq) :
    RS K G0 H0 G1 H1 (ρ.set j (some t)) (σ.set j (some v)) := by
  obtain ⟨fr, r1, sub⟩ := r.forget j
  have own1 := r1.own.mono e.g e.h
  obtain ⟨fp', q1, q2⟩ := own1.put (get_set_none hj) o
  rw [List.set_set] at q1
  have dis : ∀ a ∈ fq, ∀ b ∈ fr, a ≠ b := fun a ha b hb z => by
    subst z
    obtain ⟨u, hu⟩ := r1.own.there a hb
    rw [w.n a ha] at hu; cases hu
  refine ⟨fp', r.st.trans e, q1, fun a ha => ?_, fun a ha => ?_, q2.nodup_iff.mpr (List.nodup_append.mpr ⟨w.d, r1.d, dis⟩)⟩
  · rcases List.mem_append.mp (q2.mem_iff.mp ha) with z | z
    · exact w.g a z
    · cases q : G1 a with
      | none => rfl
      | some u =>
        obtain ⟨u', hu'⟩ := r1.own.there a z
        have := e.n a (r1.g a z) (by rw [q]; exact fun z => nomatch z)
        rw [hu'] at this; cases this
  · rcases List.mem_append.mp (q2.mem_iff.mp ha) with z | z
    · exact r.st.h.free (w.n a z)
    · exact r1.n a z
def less (H : Hp) (fp : List Addr) : Hp := fun a => if a ∈ fp then none else H a
theorem less_in {H : Hp} {fp : List Addr} {a : Addr} (h : a ∈ fp) : less H fp a = none := by unfold less; rw [if_pos h]
theorem less_out {H : Hp} {fp : List Addr} {a : Addr} (h : a ∉ fp) : less H fp a = H a := by unfold less; rw [if_neg h]
theorem less_sub {H : Hp} {fp : List Addr} : Same (less H fp) H := fun b o e => by
  by_cases q : b ∈ fp
  · rw [less_in q] at e; cases e
  · rw [less_out q] at e; exact e
theorem same_less {G H : Hp} {fp : List Addr} (s : Same G H) (h : ∀ a ∈ fp, G a = none) : Same G (less H fp) := fun b o e => by
  by_cases q : b ∈ fp
  · rw [h b q] at e; cases e
  · rw [less_out q]; exact s b o e
theorem RSf.rebase {K : PySem.W.Frag} {G0 H0 G H : Hp} {ρ : En} {σ : St} {fp : List Addr} (r : RSf K G0 H0 G H ρ σ fp) : RSf K G (less H fp) G H ρ σ fp :=
  ⟨⟨Same.refl _, less_sub, r.st.s, fun a h h' => absurd h h'⟩, r.own, r.g, fun a ha => less_in ha, r.d⟩
theorem RSf.base {K : PySem.W.Frag} {G0 H0 G H : Hp} {ρ : En} {σ : St} {fp : List Addr} (r : RSf K G0 H0 G H ρ σ fp) : Step G0 H0 G (less H fp) :=
  ⟨r.st.g, same_less r.st.h r.n, same_less r.st.s r.g, r.st.n⟩
theorem RS.under {K : PySem.W.Frag} {G0 H0 G1 H1 G H : Hp} {ρ : En} {σ : St} (e : Step G0 H0 G1 H1) (r : RS K G1 H1 G H ρ σ) : RS K G0 H0 G H ρ σ := by
  obtain ⟨fp, r⟩ := r
  exact ⟨fp, e.trans r.st, r.own, r.g, fun a ha => e.h.free (r.n a ha), r.d⟩
inductive Out where
  | nx (ρ : En)
  | rt (t : Tr)
def Post (K : PySem.W.Frag) (G0 H0 : Hp) (D : Ends) : Out → Prop
  | .nx ρ => ∀ σ G H, RS K G0 H0 G H ρ σ → D.nx σ H
  | .rt t => ∀ v G H fq, Step G0 H0 G H → Ow K G H t v fq → Nw H0 G fq → D.rt v H
theorem Post.under {K : PySem.W.Frag} {G0 H0 G1 H1 : Hp} {D : Ends} {o : Out} (e : Step G0 H0 G1 H1) (p : Post K G0 H0 D o) : Post K G1 H1 D o := by
  cases o with
  | nx ρ => exact fun σ G H r => p σ G H (r.under e)
  | rt t => exact fun v G H fq s o w => p v G H fq (e.trans s) o ⟨fun a ha => e.h.free (w.n a ha), w.g, w.d⟩
def Sm1 (K : PySem.W.Frag) (τ : TS) (ρ : En) (o : Out) : Prop := ∀ D σ G0 H0 G H, RS K G0 H0 G H ρ σ → Post K G0 H0 D o → τ D σ H
section
variable {ι : Type}
def Rn (F : Fam ι) (st : Stmt) (ρ : En) (o : Out) : Prop := ∃ τ : TS, (∀ i, PS (F.cx i) st τ) ∧ Sm1 F.K τ ρ o
def Rns (F : Fam ι) (sts : List Stmt) (ρ : En) (o : Out) : Prop := ∃ τ : TS, (∀ i, PSs (F.cx i) sts τ) ∧ Sm1 F.K τ ρ o
def EvS (F : Fam ι) (e : Expr) (ρ : En) (t : Tr) : Prop := ∃ τ : TE, (∀ i, PE (F.cx i) e τ) ∧ ∀ σ G H fp Q, Same G H → OwS F.K G H ρ σ fp → (∀ a ∈ fp, G a = none) → Kv F.K G H t Q → τ σ H Q
def EtS (F : Fam ι) (e : Expr) (ρ : En) (b : Bool) : Prop := ∃ τ : TT, (∀ i, PT (F.cx i) e τ) ∧ ∀ σ G H fp Q, Same G H → OwS F.K G H ρ σ fp → (∀ a ∈ fp, G a = none) → (∀ G' H', Step G H G' H' → Q b H') → τ σ H Q
variable {F : Fam ι} {e a b c : Expr} {es : List Expr} {ρ ρ1 : En} {t : Tr} {ts : List Tr} {pos : Pos} {o : Out} {st : Stmt} {sts A B : List Stmt}
theorem Ev.s (h : Ev F e ρ t) : EvS F e ρ t := let ⟨τ, x, y⟩ := h; ⟨τ, x, fun σ G H fp Q s r _ k => y σ G H Q s r.rpd k⟩
theorem Et.s {p : Bool} (h : Et F e ρ p) : EtS F e ρ p := let ⟨τ, x, y⟩ := h; ⟨τ, x, fun σ G H fp Q s r _ k => y σ G H Q s r.rpd k⟩
mutual
def Cl : Tr → Prop
  | .fz (.fl _) => True
  | .fz _ => False
  | .ow ts => Cls' ts
  | .tp ts => Cls' ts
def Cls' : List Tr → Prop
  | [] => True
  | t :: ts => Cl t ∧ Cls' ts
end
mutual
theorem Ow.cl {K : PySem.W.Frag} {G G' H : Hp} : ∀ {t : Tr} {v : V} {fp : List Addr}, Cl t → Ow K G H t v fp → Ow K G' H t v fp
  | .fz (.fl _), _, _, _, h => h
  | .fz (.lst _), _, _, c, _ => c.elim
  | .fz (.tup _), _, _, c, _ => c.elim
  | .ow _, _, _, c, ⟨b, vs, fq, h1, h2, h3, h4⟩ => ⟨b, vs, fq, h1, h2, OwL.cl c h3, h4⟩
  | .tp _, _, _, c, ⟨b, vs, fq, h1, h2, h3, h4⟩ => ⟨b, vs, fq, h1, h2, OwL.cl c h3, h4⟩
theorem OwL.cl {K : PySem.W.Frag} {G G' H : Hp} : ∀ {ts : List Tr} {vs : List V} {fp : List Addr}, Cls' ts → OwL K G H ts vs fp → OwL K G' H ts vs fp
  | [], _, _, _, h => h
  | _ :: _, _, _, ⟨c1, c2⟩, ⟨v, r, f1, f2, h1, h2, h3, h4⟩ => ⟨v, r, f1, f2, h1, h2, h3.cl c1, OwL.cl c2 h4⟩
end
theorem cl_ints : ∀ ns : List Int, Cls' (ns.map fun n => Tr.fz (di n))
  | [] => True.intro
  | _ :: ns => ⟨True.intro, cl_ints ns⟩
theorem Ev.pk (h : Ev F e (pk ρ) t) (c : Cl t) : EvS F e ρ t := by
  obtain ⟨τ, x, y⟩ := h
  refine ⟨τ, x, fun σ G H fp Q s r hg k => ?_⟩
  refine y σ (frzd G H fp) H Q (frzd_sub s) (r.pk (frzd_same hg) fun a ha => frzd_in ha) fun v G' H' fq st o w => ?_
  refine k v G H' fq ⟨Same.refl _, st.h, s.trans st.h, fun a h h' => absurd h h'⟩ (o.cl c) ⟨w.n, fun a ha => s.free (w.n a ha), w.d⟩
theorem Et.pk {p : Bool} (h : Et F e (pk ρ) p) : EtS F e ρ p := by
  obtain ⟨τ, x, y⟩ := h
  refine ⟨τ, x, fun σ G H fp Q s r hg k => ?_⟩
  refine y σ (frzd G H fp) H Q (frzd_sub s) (r.pk (frzd_same hg) fun a ha => frzd_in ha) fun G' H' st => ?_
  exact k G H' ⟨Same.refl _, st.h, s.trans st.h, fun a h h' => absurd h h'⟩
theorem rns_nil : Rns F [] ρ (.nx ρ) := ⟨tNext, fun _ => pss_nil, fun D σ G0 H0 G H r k => k σ G H r⟩
theorem rns_cons (h1 : Rn F st ρ (.nx ρ1)) (h2 : Rns F sts ρ1 o) : Rns F (st :: sts) ρ o := by
  obtain ⟨τ, x, y⟩ := h1
  obtain ⟨τ', x', y'⟩ := h2
  exact ⟨tSeq τ τ', fun i => pss_cons (x i) (x' i), fun D σ G0 H0 G H r k => y _ σ G0 H0 G H r fun σ1 G1 H1 r1 => y' D σ1 G0 H0 G1 H1 r1 k⟩
theorem rns_ret (h1 : Rn F st ρ (.rt t)) : Rns F (st :: sts) ρ (.rt t) := by
  obtain ⟨τ, x, y⟩ := h1
  exact ⟨tSeq τ tNever, fun i => pss_cons (x i) pss_never, fun D σ G0 H0 G H r k => y _ σ G0 H0 G H r k⟩
theorem rns_one (h1 : Rn F st ρ o) : Rns F [st] ρ o := by
  obtain ⟨τ, x, y⟩ := h1
  exact ⟨τ, fun i => pss_one (x i), y⟩
theorem rn_set (j : Nat) {x : Str} {pos' : Pos} (he : EvS F e ρ t) (hN : ∀ i, (F.cx i).N.Nodup) (hj : Nat.blt j ρ.length = true := by rfl) (hi : ∀ i, (F.cx i).N[j]? = some x := by intro _; rfl) (hx : ∀ i, Loc (F.cx i).env.scope x := by intro _; first | exact Or.inl rfl | exact Or.inr rfl)
    (hs : ∀ i, swapsWith e (some (.Name x pos')) pos.line (F.cx i).env = pure false := by intro _; rfl) (hf : ∀ i, (F.cx i).fn x = true ∨ (F.cx i).env.scope.names.lookup x = some .local := by intro _; first | exact .inl rfl | exact .inr rfl) :
    Rn F (.Assign [.Name x pos'] e pos) ρ (.nx (ρ.set j (some t))) := by
  obtain ⟨τ, y, z⟩ := he
  refine ⟨tAsg τ (gName j), fun i => ps_set (hN i) (hi i) (hx i) (y i) (hs i) (hf i), fun D σ G0 H0 G H r k => ?_⟩
  obtain ⟨fp, r⟩ := r
  exact z σ G H fp _ r.st.s r.own r.g fun v G1 H1 fq s1 o w => k _ G1 H1 (r.set (Nat.le_of_ble_eq_true hj) s1 o w)
theorem rn_ret (he : EvS F e ρ t) : Rn F (.Return (some e) pos) ρ (.rt t) := by
  obtain ⟨τ, y, z⟩ := he
  refine ⟨tRet τ, fun i => ps_ret (y i), fun D σ G0 H0 G H r k => ?_⟩
  obtain ⟨fp, r⟩ := r
  exact z σ G H fp _ r.st.s r.own r.g fun v G1 H1 fq s1 o w => k v G1 H1 fq (r.st.trans s1) o ⟨fun a ha => r.st.h.free (w.n a ha), w.g, w.d⟩
theorem rn_retO (j : Nat) {x : Str} {p' : Pos} (h : ρ[j]? = some (some t)) (hN : ∀ i, (F.cx i).N[j]? = some x := by intro _; rfl)
    (hv : ∀ i, Vis (F.cx i).env.scope x := by intro _; first | exact Or.inl rfl | exact Or.inr (Or.inl rfl) | exact Or.inr (Or.inr rfl)) (hd : (x == ("__debug__" : Str)) = false := by decide) (hc : (x == ("__classdict__" : Str)) = false := by decide) : Rn F (.Return (some (.Name x p')) pos) ρ (.rt t) := by
  refine ⟨tRet (tVar j), fun i => ps_ret (pe_var (hN i) (hv i) hd hc), fun D σ G0 H0 G H r k => ?_⟩
  obtain ⟨fp, r⟩ := r
  obtain ⟨v, f, fr, q1, q2, q3, q4⟩ := r.own.split h
  have sub : ∀ a ∈ f, a ∈ fp := fun a ha => q4.mem_iff.mpr (List.mem_append_left _ ha)
  exact ⟨v, q1, k v G H f r.st q2 ⟨fun a ha => r.n a (sub a ha), fun a ha => r.g a (sub a ha), (List.nodup_append.mp (q4.nodup_iff.mp r.d)).1⟩⟩
theorem rn_expr (he : EvS F e ρ t) (hs : ∀ i, swapsWith e none pos.line (F.cx i).env = pure false := by intro _; rfl) : Rn F (.Expr e pos) ρ (.nx ρ) := by
  obtain ⟨τ, y, z⟩ := he
  refine ⟨tDrop τ, fun i => ps_expr (y i) (hs i), fun D σ G0 H0 G H r k => ?_⟩
  obtain ⟨fp, r⟩ := r
  refine z σ G H fp _ r.st.s r.own r.g fun v G1 H1 fq s1 o w => k σ G1 H1 ⟨fp, r.st.trans s1, r.own.mono s1.g s1.h, r.own.off s1 r.g, r.n, r.d⟩
theorem rn_if {p : Bool} (hc : EtS F c ρ p) (h1 : p = true → Rns F A ρ o) (h2 : p = false → Rns F B ρ o) : Rn F (.If c A B pos) ρ o := by
  obtain ⟨τ, y, z⟩ := hc
  have key : ∀ {G0 H0 G H G1 H1 : Hp} {σ : St} {fp : List Addr}, RSf F.K G0 H0 G H ρ σ fp → Step G H G1 H1 → RS F.K G0 H0 G1 H1 ρ σ := fun {G0 H0 G H G1 H1 σ fp} r s1 => ⟨fp, r.st.trans s1, r.own.mono s1.g s1.h, r.own.off s1 r.g, r.n, r.d⟩
  cases p with
  | true =>
    obtain ⟨τ', x', y'⟩ := h1 rfl
    refine ⟨tIfS τ τ' tNever, fun i => ps_if (y i) (x' i) pss_never, fun D σ G0 H0 G H r k => ?_⟩
    obtain ⟨fp, r⟩ := r
    exact z σ G H fp _ r.st.s r.own r.g fun G1 H1 s1 => iteT (y' D σ G0 H0 G1 H1 (key r s1) k)
  | false =>
    obtain ⟨τ', x', y'⟩ := h2 rfl
    refine ⟨tIfS τ tNever τ', fun i => ps_if (y i) pss_never (x' i), fun D σ G0 H0 G H r k => ?_⟩
    obtain ⟨fp, r⟩ := r
    exact z σ G H fp _ r.st.s r.own r.g fun G1 H1 s1 => iteF (y' D σ G0 H0 G1 H1 (key r s1) k)
theorem set_self {α : Type} : ∀ {l : List α} {j : Nat} {v : α}, l[j]? = some v → l.set j v = l
  | _ :: _, 0, _, h => by cases h; rfl
  | _ :: _, j + 1, _, h => by rw [List.set_cons_succ, set_self (l := _) (j := j) h]
theorem rns_freeze (j : Nat) (hj : ρ[j]? = some (some t)) (h : Rns F sts (ρ.set j (some (.fz (er t)))) o) : Rns F sts ρ o := by
  obtain ⟨τ, x, y⟩ := h
  refine ⟨τ, x, fun D σ G0 H0 G H r k => ?_⟩
  obtain ⟨fp, r⟩ := r
  obtain ⟨v, f, fr, q1, q2, q3, q4⟩ := r.own.split hj
  have nd := List.nodup_append.mp (q4.nodup_iff.mp r.d)
  have sub : ∀ a ∈ f, a ∈ fp := fun a ha => q4.mem_iff.mpr (List.mem_append_left _ ha)
  have sub' : ∀ a ∈ fr, a ∈ fp := fun a ha => q4.mem_iff.mpr (List.mem_append_right _ ha)
  have sm : Same G (frzd G H f) := frzd_same fun a ha => r.g a (sub a ha)
  have lt : j < ρ.length := by
    rcases Nat.lt_or_ge j ρ.length with z | z
    · exact z
    · rw [List.getElem?_eq_none z] at hj; cases hj
  obtain ⟨fp', p1, p2⟩ := (q3.mono sm (Same.refl _)).put (f := []) (t := .fz (er t)) (get_set_none lt) ⟨rfl, q2.hv sm fun a ha => frzd_in ha⟩
  rw [List.set_set, set_self q1] at p1
  refine y D σ G0 H0 (frzd G H f) H ⟨fp', ⟨r.st.g.trans sm, r.st.h, frzd_sub r.st.s, fun a h h' => ?_⟩, p1, fun a ha => ?_, fun a ha => r.n a (sub' a (p2.mem_iff.mp ha)), p2.nodup_iff.mpr nd.2.1⟩ k
  · by_cases z : a ∈ f
    · exact r.n a (sub a z)
    · rw [frzd_out z] at h'; exact r.st.n a h h'
  · have z := p2.mem_iff.mp ha
    rw [frzd_out fun z' => nd.2.2 a z' a z rfl]
    exact r.g a (sub' a z)
theorem RSf.chg {K : PySem.W.Frag} {G0 H0 G H G1 H1 : Hp} {ρ : En} {σ : St} {fp : List Addr} {j : Nat} {t : Tr} (r : RSf K G0 H0 G H ρ σ fp) (hj : ρ[j]? = some (some t)) (s1 : Step G H G1 H1) :
    ∃ v f, σ[j]? = some (some v) ∧ Ow K G H t v f ∧ Ow K G1 H1 t v f ∧ f.Nodup ∧ (∀ a ∈ f, a ∈ fp) ∧ ∀ l o t' f', l ∈ f → Ow K G1 (upd H1 l o) t' v f' → f'.Nodup → (∀ a ∈ f', a ∈ f ∨ (H a = none ∧ G1 a = none)) → RS K G0 H0 G1 (upd H1 l o) (ρ.set j (some t')) σ := by
  obtain ⟨v, f, fr, q1, q2, q3, q4⟩ := r.own.split hj
  have nda := List.nodup_append.mp (q4.nodup_iff.mp r.d)
  have qfp : ∀ a ∈ f, a ∈ fp := fun a ha => q4.mem_iff.mpr (List.mem_append_left _ ha)
  have rfp : ∀ a ∈ fr, a ∈ fp := fun a ha => q4.mem_iff.mpr (List.mem_append_right _ ha)
  have lt : j < ρ.length := by
    rcases Nat.lt_or_ge j ρ.length with z | z
    · exact z
    · rw [List.getElem?_eq_none z] at hj; cases hj
  have lG : ∀ a ∈ fp, G1 a = none := fun a ha => by
    cases q : G1 a with
    | none => rfl
    | some u =>
      obtain ⟨u', hu'⟩ := r.own.there a ha
      have := s1.n a (r.g a ha) (by rw [q]; exact fun z => nomatch z)
      rw [hu'] at this; cases this
  refine ⟨v, f, q1, q2, q2.mono s1.g s1.h, nda.1, qfp, fun l o t' f' hl ow nw hw => ?_⟩
  have new : ∀ a, H a = none → a ∉ fp := fun a ha hb => by
    obtain ⟨u, hu⟩ := r.own.there a hb
    rw [ha] at hu; cases hu
  have q3' : OwS K G1 (upd H1 l o) (ρ.set j none) σ fr := (q3.mono s1.g s1.h).frame fun z => nda.2.2 l hl l z rfl
  obtain ⟨fp', p1', p2'⟩ := q3'.put (get_set_none lt) ow
  rw [List.set_set, set_self q1] at p1'
  have memf : ∀ a ∈ fp', a ∈ fp ∨ (H a = none ∧ G1 a = none) := fun a ha => by
    rcases List.mem_append.mp (p2'.mem_iff.mp ha) with z | z
    · exact (hw a z).imp (qfp a) id
    · exact .inl (rfp a z)
  refine ⟨fp', ⟨(r.st.trans s1).g, fun b u hb => ?_, fun b u hb => ?_, (r.st.trans s1).n⟩, p1', fun a ha => ?_, fun a ha => ?_, ?_⟩
  · have hb1 := (r.st.trans s1).h b u hb
    rw [upd_ne fun z => ?_]
    · exact hb1
    · subst z; rw [r.n _ (qfp _ hl)] at hb; cases hb
  · have hb1 := s1.s b u hb
    rw [upd_ne fun z => ?_]
    · exact hb1
    · subst z; rw [lG _ (qfp _ hl)] at hb; cases hb
  · exact (memf a ha).elim (lG a) fun z => z.2
  · exact (memf a ha).elim (r.n a) fun z => r.st.h.free z.1
  · refine p2'.nodup_iff.mpr (List.nodup_append.mpr ⟨nw, nda.2.1, fun a ha b hb z => ?_⟩)
    subst z
    rcases hw a ha with z | z
    · exact nda.2.2 a z a hb rfl
    · exact new a z.1 (rfp a hb)
theorem RSf.mut {K : PySem.W.Frag} {G0 H0 G H G1 H1 : Hp} {ρ : En} {σ : St} {fp : List Addr} {j : Nat} {us : List Tr} (r : RSf K G0 H0 G H ρ σ fp) (hj : ρ[j]? = some (some (.ow us))) (s1 : Step G H G1 H1) :
    ∃ l vs fq, σ[j]? = some (some (.ref l)) ∧ H l = some (.lst vs) ∧ H1 l = some (.lst vs) ∧ OwL K G1 H1 us vs fq ∧ fq.Nodup ∧ (∀ a ∈ fq, a ∈ fp) ∧ ∀ us' ws fw, OwL K G1 H1 us' ws fw → fw.Nodup → (∀ a ∈ fw, a ∈ fq ∨ (H a = none ∧ G1 a = none)) → RS K G0 H0 G1 (upd H1 l (.lst ws)) (ρ.set j (some (.ow us'))) σ := by
  obtain ⟨v, f, q1, q2, q3, nd, qfp, q⟩ := r.chg hj s1
  obtain ⟨l, vs, fq, rfl, hl, ol, rfl⟩ := q3
  obtain ⟨l', vs', fq', e1, hl', _, e2⟩ := q2
  cases e1
  have ev : vs' = vs := by
    have := s1.h _ _ hl'
    rw [hl] at this
    cases this; rfl
  subst ev
  have ndl := List.nodup_cons.mp nd
  refine ⟨l, vs', fq, q1, hl', hl, ol, ndl.2, fun a ha => qfp a (.tail _ ha), fun us' ws fw ow nw hw => ?_⟩
  have lfw : l ∉ fw := fun z => (hw l z).elim ndl.1 fun z => by rw [z.1] at hl'; cases hl'
  exact q l (.lst ws) (.ow us') (l :: fw) (.head _) ⟨l, ws, fw, rfl, upd_same, ow.frame lfw, rfl⟩ (List.nodup_cons.mpr ⟨lfw, nw⟩) fun a ha => (List.mem_cons.mp ha).elim (fun z => .inl (z ▸ .head _)) fun z => (hw a z).imp (fun z => .tail _ z) id
theorem rn_append (j : Nat) {x : Str} {us : List Tr} {p1 p2 p3 : Pos} (h : ρ[j]? = some (some (.ow us))) (he : EvS F e ρ t) (hz : us.length < sizeLine) (hN : ∀ i, (F.cx i).N[j]? = some x := by intro _; rfl)
    (hv : ∀ i, Vis (F.cx i).env.scope x := by intro _; first | exact Or.inl rfl | exact Or.inr (Or.inl rfl) | exact Or.inr (Or.inr rfl)) (hd : (x == ("__debug__" : Str)) = false := by decide) (hc : (x == ("__classdict__" : Str)) = false := by decide)
    (hbase : ∀ i, attributeBase (.Name x p1) "append" (F.cx i).env (eval (.Name x p1) (F.cx i).env) = eval (.Name x p1) (F.cx i).env := by intro _; rfl)
    (hfew : ∀ i, ((backTo p3 (starEach [e] (F.cx i).env)).all (fun x => !x.1) && (backToKw p3 (keywordEach [] (F.cx i).env)).all (fun x => x.1.isSome) && decide (([e] : List Expr).length + ([] : List Keyword).length + (if ([] : List Keyword).isEmpty then 0 else 1) < 30)) = true := by intro _; rfl)
    (hline : (p2.endLine == p3.line) = true := by rfl) (hs : ∀ i, starEach [e] (F.cx i).env = [(false, eval e (F.cx i).env)] := by intro _; rfl) (hsw : ∀ i, swapsWith (.Call (.Attribute (.Name x p1) "append" p2) [e] [] p3) none pos.line (F.cx i).env = pure false := by intro _; rfl) :
    Rn F (.Expr (.Call (.Attribute (.Name x p1) "append" p2) [e] [] p3) pos) ρ (.nx (ρ.set j (some (.ow (us ++ [t]))))) := by
  obtain ⟨τ, y, z⟩ := he
  refine ⟨tDrop (tBM F.K "list" rAppend (tVar j) (tCons τ tNil)), fun i => ps_expr (F.hK i ▸ pe_bm PySem.F.plainAttrs_list PySem.F.slot_list_append PySem.F.type_list_append mt_append (pe_var (hN i) (hv i) hd hc) (pa_cons (y i) pa_nil (hs i)) (hbase i) (hfew i) hline (hs i) rfl) (hsw i), fun D σ G0 H0 G H r k => ?_⟩
  obtain ⟨fp, r⟩ := r
  obtain ⟨l0, vs0, fq0, c1, c2, _⟩ := r.mut h (.refl r.st.s)
  refine ⟨_, c1, .inl ⟨rfl, _, SqL.of c2⟩, ?_⟩
  refine z σ G H fp _ r.st.s r.own r.g fun v1 G1 H1 f1 s1 o1 w1 => ?_
  obtain ⟨l, vs, fq, d1, d2, d3, d4, d5, d6, d7⟩ := r.mut h s1
  rw [c1] at d1
  cases d1
  refine ⟨l0, vs, v1, rfl, rfl, d3, by rw [← d4.length]; exact hz, k σ G1 _ (d7 (us ++ [t]) (vs ++ [v1]) (fq ++ (f1 ++ [])) (d4.append ⟨v1, [], f1, [], rfl, rfl, o1, rfl, rfl⟩) ?_ fun a ha => ?_)⟩
  · rw [List.append_nil]
    refine List.nodup_append.mpr ⟨d5, w1.d, fun a ha b hb e => ?_⟩
    subst e
    obtain ⟨u, hu⟩ := r.own.there a (d6 a ha)
    rw [w1.n a hb] at hu; cases hu
  · rw [List.append_nil] at ha
    exact (List.mem_append.mp ha).imp id fun z => ⟨w1.n a z, w1.g a z⟩
end
end L2
namespace L2
open PySem PySem.Spec PyProof.Rows
def ItD (K : PySem.W.Frag) (G : Hp) (J : It) (its : List Dv) : Prop := ∀ k G1 H1, Same G G1 → Same G1 H1 →
  (∀ d, its[k]? = some d → J.go k H1 ∧ ∀ x H3, J.yld k H1 x H3 → ∃ G3, Step G1 H1 G3 H3 ∧ Hv K G3 d x) ∧ (k = its.length → J.stop k H1)
def setAll {α : Type} : List Nat → List α → List (Option α) → List (Option α)
  | j :: js, v :: vs, σ => setAll js vs (σ.set j (some v))
  | _, _, σ => σ
def dropAll {α : Type} : List Nat → List (Option α) → List (Option α)
  | [], ρ => ρ
  | j :: js, ρ => dropAll js (ρ.set j none)
theorem RS.dropAll {K : PySem.W.Frag} {G0 H0 G H : Hp} : ∀ {ρ : En} {σ : St} (js : List Nat), RS K G0 H0 G H ρ σ → RS K G0 H0 G H (L2.dropAll js ρ) σ
  | _, _, [], r => r
  | _, _, j :: js, r => RS.dropAll js (r.forget j)
def Fg (ρ ρ' : En) : Prop := ∃ fs, L2.dropAll fs ρ = ρ'
theorem Fg.rs {K : PySem.W.Frag} {G0 H0 G H : Hp} {ρ ρ' : En} {σ : St} (f : Fg ρ ρ') (r : RS K G0 H0 G H ρ σ) : RS K G0 H0 G H ρ' σ := by
  obtain ⟨fs, rfl⟩ := f
  exact r.dropAll fs
theorem RS.setAll {K : PySem.W.Frag} {G0 H0 G H : Hp} : ∀ {js : List Nat} {ds : List Dv} {vs : List V} {ρ : En} {σ : St}, (∀ j ∈ js, j < ρ.length) → HvL K G ds vs → RS K G0 H0 G H ρ σ → RS K G0 H0 G H (L2.setAll js (ds.map .fz) ρ) (L2.setAll js vs σ)
  | [], _, _, _, _, _, _, r => r
  | _ :: _, [], _, _, _, _, h, r => by rw [show _ = [] from h]; exact r
  | j :: js, d :: ds, _, ρ, σ, hj, ⟨x, q, h1, h2, h3⟩, ⟨fp, r⟩ => by
    subst h1
    have r' : RS K G0 H0 G H (ρ.set j (some (.fz d))) (σ.set j (some x)) := r.set (t := .fz d) (v := x) (fq := []) (hj j (.head _)) (.refl r.st.s) ⟨rfl, h2⟩ .nil
    exact RS.setAll (js := js) (ds := ds) (fun i hi => by rw [List.length_set]; exact hj i (.tail _ hi)) h3 r'
theorem RpD.set {K : PySem.W.Frag} {G : Hp} {ρ : En} {σ : St} {j : Nat} {d : Dv} {v : V} (r : RpD K G ρ σ) (hj : j < σ.length) (h : Hv K G d v) : RpD K G (ρ.set j (some (.fz d))) (σ.set j (some v)) := fun i e hi => by
  by_cases q : i = j
  · subst q
    rw [List.getElem?_set_self (by
      rcases Nat.lt_or_ge i ρ.length with z | z
      · exact z
      · rw [List.getElem?_eq_none (by rw [List.length_set]; exact z)] at hi; cases hi)] at hi
    cases hi
    exact ⟨v, by rw [List.getElem?_set_self hj], h⟩
  · rw [List.getElem?_set_ne (Ne.symm q)] at hi
    obtain ⟨u, h1, h2⟩ := r i e hi
    exact ⟨u, by rw [List.getElem?_set_ne (Ne.symm q)]; exact h1, h2⟩
theorem setAll_len {α : Type} : ∀ (js : List Nat) (vs : List α) (σ : List (Option α)), (setAll js vs σ).length = σ.length
  | [], _, _ => rfl
  | _ :: _, [], _ => rfl
  | j :: js, v :: vs, σ => by
    show (setAll js vs (σ.set j (some v))).length = _
    rw [setAll_len js vs, List.length_set]
theorem RpD.setAll {K : PySem.W.Frag} {G : Hp} : ∀ {js : List Nat} {ds : List Dv} {vs : List V} {ρ : En} {σ : St}, (∀ j ∈ js, j < σ.length) → HvL K G ds vs → RpD K G ρ σ → RpD K G (L2.setAll js (ds.map .fz) ρ) (L2.setAll js vs σ)
  | [], _, _, _, _, _, _, r => r
  | _ :: _, [], _, _, _, _, h, r => by rw [show _ = [] from h]; exact r
  | j :: js, d :: ds, _, ρ, σ, hj, ⟨x, q, h1, h2, h3⟩, r => by
    subst h1
    exact RpD.setAll (js := js) (ds := ds) (ρ := ρ.set j (some (.fz d))) (fun i hi => by rw [List.length_set]; exact hj i (.tail _ hi)) h3 (r.set (hj j (.head _)) h2)
section
variable {ι : Type}
def EvI (F : Fam ι) (tg iter : Expr) (ρ : En) (its : List Dv) : Prop := ∃ wi : TI, (∀ i, PI (F.cx i) tg iter wi) ∧ ∀ σ G H (R : It → Hp → Prop), Same G H → RpD F.K G ρ σ → (∀ J G' H', Step G H G' H' → ItD F.K G' J its → R J H') → wi σ H R
def EvIS (F : Fam ι) (tg iter : Expr) (ρ : En) (its : List Dv) : Prop := ∃ wi : TI, (∀ i, PI (F.cx i) tg iter wi) ∧ ∀ σ G H fp (R : It → Hp → Prop), Same G H → OwS F.K G H ρ σ fp → (∀ a ∈ fp, G a = none) → (∀ J G' H', Step G H G' H' → ItD F.K G' J its → R J H') → wi σ H R
def EvG (F : Fam ι) (tg : Expr) (js : List Nat) (sp : Dv → Option (List Dv)) : Prop := ∃ g : TG, (∀ i, PG (F.cx i) tg g) ∧ ∀ d dd v σ G H Q, sp d = some dd → Same G H → Hv F.K G d v → (∀ vs, HvL F.K G dd vs → Q (setAll js vs σ) H) → g v σ H Q
def uS (F : Fam ι) (sts : List Stmt) : TS := fun D σ H => ∃ τ : TS, (∀ i, PSs (F.cx i) sts τ) ∧ τ D σ H
theorem uS_ok {F : Fam ι} {sts : List Stmt} (i : ι) : PSs (F.cx i) sts (uS F sts) := fun pins s σ H D I ⟨τ, h, q⟩ => h i pins s σ H D I q
def uE (F : Fam ι) (e : Expr) : TE := fun σ H Q => ∃ τ : TE, (∀ i, PE (F.cx i) e τ) ∧ τ σ H Q
theorem uE_ok {F : Fam ι} {e : Expr} (i : ι) : PE (F.cx i) e (uE F e) := fun pins s σ H D I ⟨τ, h, q⟩ => h i pins s σ H D I q
variable {F : Fam ι} {e a b c tg iter elt : Expr} {es : List Expr} {ρ ρ1 : En} {t ta : Tr} {ts : List Tr} {pos : Pos} {o : Out} {body : List Stmt} {its : List Dv} {js : List Nat} {sp : Dv → Option (List Dv)}
theorem EvI.s (h : EvI F tg iter ρ its) : EvIS F tg iter ρ its := let ⟨w, x, y⟩ := h; ⟨w, x, fun σ G H fp R s r _ k => y σ G H R s r.rpd k⟩
theorem evg_nm (j : Nat) {x : Str} (hN : ∀ i, (F.cx i).N.Nodup) (hi : ∀ i, (F.cx i).N[j]? = some x := by intro _; rfl) (hx : ∀ i, Loc (F.cx i).env.scope x := by intro _; first | exact Or.inl rfl | exact Or.inr rfl)
    (hf : ∀ i, (F.cx i).fn x = true ∨ (F.cx i).env.scope.names.lookup x = some .local := by intro _; first | exact .inl rfl | exact .inr rfl) : EvG F (.Name x pos) [j] (fun d => some [d]) :=
  ⟨gName j, fun i => pg_name (hN i) (hi i) (hx i) (hf i), fun d dd v σ G H Q e s h k => by
    cases e
    exact k [v] ⟨v, [], rfl, h, rfl⟩⟩
def tupOf (n : Nat) : Dv → Option (List Dv)
  | .tup ds => if ds.length = n then some ds else none
  | _ => none
theorem evi_list {xs : List Dv} (ha : Ev F e ρ ta) (ea : er ta = .lst xs) : EvI F tg e ρ xs := by
  obtain ⟨τ, p, q⟩ := ha.use
  refine ⟨iList F.K τ, fun i => F.hK i ▸ pi_list (p i), fun σ G H R s r k => q σ G H _ s r fun x G1 H1 s1 hx => ?_⟩
  rw [ea] at hx
  obtain ⟨l, vs, rfl, h1, h2⟩ := hx
  refine ⟨l, rfl, ⟨vs, s1.s.seq h1⟩, k _ G1 H1 s1 fun j G2 H2 sg sh => ⟨fun d hd => ?_, fun hz => ⟨vs, (sg.trans sh).seq h1, by rw [← h2.length, hz]; exact Nat.le_refl _⟩⟩⟩
  obtain ⟨v, q1, q2⟩ := h2.get hd
  refine ⟨⟨vs, v, (sg.trans sh).seq h1, q1⟩, ?_⟩
  rintro x H3 ⟨rfl, hx⟩
  have := hx vs ((sg.trans sh).seq h1)
  rw [q1] at this
  cases this
  exact ⟨G2, .refl sh, q2.mono sg⟩
abbrev rngD (lo : Int) (n : Nat) : List Dv := (List.range n).map fun k => di (lo + (k : Nat))
theorem itd_rng {K : PySem.W.Frag} {G : Hp} (lo : Int) (n : Nat) : ItD K G (Itr lo n) (rngD lo n) := fun k G1 H1 sg sh => by
  refine ⟨fun d hd => ?_, fun hz => by show n ≤ k; rw [hz]; simp⟩
  rw [List.getElem?_map] at hd
  rcases Nat.lt_or_ge k n with hk | hk
  · rw [List.getElem?_range hk] at hd
    cases hd
    refine ⟨hk, ?_⟩
    rintro x H3 ⟨rfl, rfl⟩
    exact ⟨G1, .refl sh, rfl, rfl⟩
  · rw [List.getElem?_eq_none (by simpa using hk)] at hd; cases hd
theorem evi_range1 {n : Int} (hm : F.mg "range" = none) (ha : Ev F a ρ (ti n)) (hb : -(2 ^ 62) ≤ n ∧ n < 2 ^ 62) {p : Pos} (hg : ∀ i, Gl (F.cx i) "range" := by intro _; rfl) (hs : ∀ i, starEach [a] (F.cx i).env = [(false, eval a (F.cx i).env)] := by intro _; rfl) : EvI F tg (.Call (.Name "range" p) [a] [] pos) ρ (rngD 0 n.toNat) := by
  obtain ⟨τ, p, q⟩ := ha.use
  refine ⟨iRng1 (tCons τ tNil), fun i => pi_range1 (hg i) ((F.hm i).symm ▸ hm) (pa_cons (p i) pa_nil (hs i)) (hs i), fun σ G H R s r k => q σ G H _ s r fun x G1 H1 s1 hx => ?_⟩
  exact ⟨n, by rw [hvi hx], hb.1, hb.2, k _ G1 H1 s1 (itd_rng 0 n.toNat)⟩
theorem blts {js : List Nat} {n : Nat} (h : js.all (fun j => Nat.blt j n) = true) : ∀ j ∈ js, j < n := fun j hj => Nat.le_of_ble_eq_true (List.all_eq_true.mp h j hj)
theorem pOwn {i : ι} (hx : (F.cx i).xe = NoX) : PassesOwn (model (F.cx i).prog (F.cx i).w) (F.cx i).A (F.cx i).env (F.cx i).xe := by rw [hx]; exact PassesOwn.never
theorem rn_for_gen (hi : EvIS F tg iter ρ its) (hg : EvG F tg js sp) (inv : Nat → En) (m : Nat) (hm : m ≤ its.length) (h0 : inv 0 = ρ) (hlen : ∀ k, js.all (fun j => Nat.blt j (inv k).length) = true)
    (step : ∀ k d, k < m → its[k]? = some d → ∃ dd ρb, sp d = some dd ∧ Rns F body (setAll js (dd.map .fz) (inv k)) (.nx ρb) ∧ Fg ρb (inv (k + 1)))
    (fin : (m = its.length ∧ o = .nx (inv m)) ∨ ∃ d dd t, its[m]? = some d ∧ sp d = some dd ∧ Rns F body (setAll js (dd.map .fz) (inv m)) (.rt t) ∧ o = .rt t)
    (hx : ∀ i, (F.cx i).xe = NoX := by intro _; rfl) (hs : ∀ i x, foldedSetIterable iter (F.cx i).env x = pure x := by intro _ _; rfl) : Rn F (.For tg iter body [] pos) ρ o := by
  obtain ⟨wi, p, q⟩ := hi
  obtain ⟨g, pg, qg⟩ := hg
  subst h0
  refine ⟨tFor wi g (uS F body), fun i => ps_for (pOwn (hx i)) (F.calm i) (p i) (pg i) (uS_ok i) (hs i), fun D σ G0 H0 G H r k => ?_⟩
  obtain ⟨fp, r⟩ := r
  refine q σ G H fp _ r.st.s r.own r.g fun J G1 H1 s1 it => ?_
  have r1 : RSf F.K G0 H0 G1 H1 (inv 0) σ fp := ⟨r.st.trans s1, r.own.mono s1.g s1.h, r.own.off s1 r.g, r.n, r.d⟩
  have kb := k.under r1.base
  refine ⟨fun k m' σ' H' => m' = its.length - k ∧ k ≤ m ∧ ∃ G', RS F.K G1 (less H1 fp) G' H' (inv k) σ', ⟨_, rfl, Nat.zero_le _, G1, fp, r1.rebase⟩, ?_⟩
  rintro n m' σ' H' ⟨rfl, hn, G', r'⟩
  obtain ⟨fp', r'⟩ := r'
  obtain ⟨i1, i2⟩ := it n G' H' r'.st.g r'.st.s
  by_cases hlt : n < m
  · have hd : its[n]? = some its[n] := List.getElem?_eq_getElem (by omega)
    obtain ⟨j1, j2⟩ := i1 _ hd
    refine .inr ⟨j1, fun σ2 H2 => ∃ G2, RS F.K G1 (less H1 fp) G2 H2 (inv (n + 1)) σ2, fun σ2 H2 z => ⟨its.length - (n + 1), by omega, rfl, hlt, z⟩, fun x H3 y => ?_⟩
    obtain ⟨G3, s3, h3⟩ := j2 x H3 y
    obtain ⟨dd, ρb, e1, ⟨τ, pb, qb⟩, e2⟩ := step n _ hlt hd
    refine qg _ dd x σ' G3 H3 _ e1 s3.s h3 fun vs hvs => ⟨τ, pb, qb _ _ G1 (less H1 fp) G3 H3 (RS.setAll (blts (hlen n)) hvs ⟨fp', r'.st.trans s3, r'.own.mono s3.g s3.h, fun a ha => ?_, r'.n, r'.d⟩) fun σ4 G4 H4 r4 => ⟨G4, e2.rs r4⟩⟩
    cases q : G3 a with
    | none => rfl
    | some u =>
      obtain ⟨u', hu'⟩ := r'.own.there a ha
      have := s3.n a (r'.g a ha) (by rw [q]; exact fun z => nomatch z)
      rw [hu'] at this; cases this
  · have en : n = m := by omega
    subst en
    rcases fin with ⟨e, rfl⟩ | ⟨d, dd, t, hd, e1, ⟨τ, pb, qb⟩, rfl⟩
    · refine .inl ⟨i2 e, kb σ' G' H' ⟨fp', r'⟩⟩
    · obtain ⟨j1, j2⟩ := i1 d hd
      refine .inr ⟨j1, fun _ _ => False, fun _ _ z => z.elim, fun x H3 y => ?_⟩
      obtain ⟨G3, s3, h3⟩ := j2 x H3 y
      refine qg d dd x σ' G3 H3 _ e1 s3.s h3 fun vs hvs => ⟨τ, pb, qb _ _ G1 (less H1 fp) G3 H3 (RS.setAll (blts (hlen n)) hvs ⟨fp', r'.st.trans s3, r'.own.mono s3.g s3.h, fun a ha => ?_, r'.n, r'.d⟩) kb⟩
      cases q : G3 a with
      | none => rfl
      | some u =>
        obtain ⟨u', hu'⟩ := r'.own.there a ha
        have := s3.n a (r'.g a ha) (by rw [q]; exact fun z => nomatch z)
        rw [hu'] at this; cases this
theorem rn_for (hi : EvIS F tg iter ρ its) (hg : EvG F tg js sp) (inv : Nat → En) (h0 : inv 0 = ρ) (hlen : ∀ k, js.all (fun j => Nat.blt j (inv k).length) = true)
    (step : ∀ k d, its[k]? = some d → ∃ dd ρb, sp d = some dd ∧ Rns F body (setAll js (dd.map .fz) (inv k)) (.nx ρb) ∧ Fg ρb (inv (k + 1)))
    (hx : ∀ i, (F.cx i).xe = NoX := by intro _; rfl) (hs : ∀ i x, foldedSetIterable iter (F.cx i).env x = pure x := by intro _ _; rfl) : Rn F (.For tg iter body [] pos) ρ (.nx (inv its.length)) :=
  rn_for_gen hi hg inv its.length (Nat.le_refl _) h0 hlen (fun k d _ h => step k d h) (.inl ⟨rfl, rfl⟩) hx hs
structure IxLc where
  C : Addr
  s : Shared
  H : Hp
  ex : List Addr
  pn : List (Addr × Obj)
def famLc (F : Fam ι) (own : List Str) (fr : List Nat) (sc : Scope) (cl : ι → List (Str × Addr)) : Fam (ι × IxLc) where
  cx i := cxLc (F.cx i.1) own fr sc (cl i.1) i.2.C i.2.s i.2.H i.2.ex i.2.pn
  P := F.P
  w := F.w
  K := F.K
  mg := F.mg
  base := F.base
  room := F.room
  hP i := F.hP i.1
  hw i := F.hw i.1
  hK i := F.hK i.1
  hm i := F.hm i.1
  hb i := F.hb i.1
  hr i := F.hr i.1
  calm i := F.calm i.1
def lcEn (own : List Str) (fr : List Nat) (ρ : En) : En := own.map (fun _ => none) ++ fr.map fun j => (ρ[j]?).join
theorem rpd_lc {K : PySem.W.Frag} {G : Hp} {own : List Str} {fr : List Nat} {ρ : En} {σ : St} (r : RpD K G ρ σ) : RpD K G (lcEn own fr ρ) (lcStart own fr σ) := fun i d h => by
  unfold lcEn at h
  unfold lcStart
  by_cases hi : i < own.length
  · rw [List.getElem?_append_left (by simpa using hi), List.getElem?_map] at h
    cases q : own[i]? with
    | none => rw [q] at h; cases h
    | some z => rw [q] at h; cases h
  · rw [List.getElem?_append_right (by simpa using hi), List.getElem?_map, List.length_map] at h
    rw [List.getElem?_append_right (by simpa using hi), List.getElem?_map, List.length_map]
    cases q : fr[i - own.length]? with
    | none => rw [q] at h; cases h
    | some j =>
      rw [q] at h
      have h' : (ρ[j]?).join = some (.fz d) := Option.some.inj h
      have hj : ρ[j]? = some (some (.fz d)) := by
        cases q2 : ρ[j]? with
        | none => rw [q2] at h'; cases h'
        | some o => rw [q2] at h'; exact congrArg some h'
      obtain ⟨v, h1, h2⟩ := r j d hj
      refine ⟨v, ?_, h2⟩
      show some ((σ[j]?).join) = _
      rw [h1]
      rfl
def El {κ : Type} (F : Fam κ) (ifs : List Expr) (ρ : En) (b : Bool) : Prop := ∃ tt : TT, (∀ i (pins : List (Addr × Obj)) (s1 : Shared) (σ1 : St) (H1 : Hp) (Q : Bool → Hp → Prop), Inv (F.cx i) pins σ1 H1 s1 → tt σ1 H1 Q →
      wpAny (model (F.cx i).prog (F.cx i).w) (F.cx i).A (lcTests ifs (F.cx i).env) (TP (F.cx i) pins σ1 Q) NoX s1) ∧ ∀ σ G H Q, Same G H → RpD F.K G ρ σ → (∀ G' H', Step G H G' H' → Q b H') → tt σ H Q
theorem el_nil : El F [] ρ true := ⟨tNoTest, fun i pins s1 σ1 H1 Q I h => lc_t0 pins s1 σ1 H1 Q I h, fun σ G H Q s r k => k G H (.refl s)⟩
theorem el_one {p : Bool} (h : Et F c ρ p) (hx : ∀ i, (F.cx i).xe = NoX := by intro _; rfl) : El F [c] ρ p := let ⟨τ, x, y⟩ := h; ⟨τ, fun i pins s1 σ1 H1 Q I h => lc_t1 (x i) (hx i) pins s1 σ1 H1 Q I h, y⟩
def uL {κ : Type} (F : Fam κ) (ifs : List Expr) : TT := fun σ H Q => ∃ tt : TT, (∀ i (pins : List (Addr × Obj)) (s1 : Shared) (σ1 : St) (H1 : Hp) (Q : Bool → Hp → Prop), Inv (F.cx i) pins σ1 H1 s1 → tt σ1 H1 Q →
      wpAny (model (F.cx i).prog (F.cx i).w) (F.cx i).A (lcTests ifs (F.cx i).env) (TP (F.cx i) pins σ1 Q) NoX s1) ∧ tt σ H Q
def LcV (F : Fam ι) (own : List Str) (fr : List Nat) (sc : Scope) (cl : ι → List (Str × Addr)) (elt tg iter : Expr) (ifs : List Expr) (τ : TE) : Prop := ∃ wi g tt te, τ = tLc wi g tt te own fr ∧ (∀ i, PI (F.cx i) tg iter wi) ∧ (∀ i, PG ((famLc F own fr sc cl).cx i) tg g) ∧
  (∀ i (pins : List (Addr × Obj)) (s1 : Shared) (σ1 : St) (H1 : Hp) (Q : Bool → Hp → Prop), Inv ((famLc F own fr sc cl).cx i) pins σ1 H1 s1 → tt σ1 H1 Q → wpAny (model ((famLc F own fr sc cl).cx i).prog ((famLc F own fr sc cl).cx i).w) ((famLc F own fr sc cl).cx i).A (lcTests ifs ((famLc F own fr sc cl).cx i).env) (TP ((famLc F own fr sc cl).cx i) pins σ1 Q) NoX s1) ∧
  ∀ i, PE ((famLc F own fr sc cl).cx i) elt te
def Elc (F : Fam ι) (own : List Str) (fr : List Nat) (sc : Scope) (cl : ι → List (Str × Addr)) (elt tg iter : Expr) (ifs : List Expr) (ρ : En) (t : Tr) : Prop := ∃ τ, LcV F own fr sc cl elt tg iter ifs τ ∧ ∀ σ G H Q, Same G H → RpD F.K G ρ σ → Kv F.K G H t Q → τ σ H Q
theorem elc {ifs : List Expr} {sc : Scope} {own : List Str} {fr : List Nat} {cl : ι → List (Str × Addr)} (hi : EvI F tg iter ρ its) (hg : EvG (famLc F own fr sc cl) tg js sp) (hjs : ∀ j ∈ js, j < own.length)
    (p : Nat → Bool) (f : Nat → Tr) (hz : its.length < sizeLine)
    (step : ∀ k d, its[k]? = some d → ∃ dd, sp d = some dd ∧ El (famLc F own fr sc cl) ifs (setAll js (dd.map .fz) (lcEn own fr ρ)) (p k) ∧ (p k = true → Ev (famLc F own fr sc cl) elt (setAll js (dd.map .fz) (lcEn own fr ρ)) (f k)))
    (hdrop : ∀ dd : List Dv, dropAll js (setAll js (dd.map .fz) (lcEn own fr ρ)) = lcEn own fr ρ) : Elc F own fr sc cl elt tg iter ifs ρ (.ow (((List.range its.length).filter p).map f)) := by
  obtain ⟨wi, pi, qi⟩ := hi
  obtain ⟨g, pg, qg⟩ := hg
  refine ⟨_, ⟨wi, g, uL (famLc F own fr sc cl) ifs, uE (famLc F own fr sc cl) elt, rfl, pi, pg, fun i pins s1 σ1 H1 Q I h => by
      obtain ⟨tt, h1, h2⟩ := h
      exact h1 i pins s1 σ1 H1 Q I h2, fun i => uE_ok i⟩, fun σ G H Q s r k => ?_⟩
  refine qi σ G H _ s r fun J G1 H1 s1 it acc hacc => ?_
  have k1 := k.step s1
  have rpDrop : ∀ {G' : Hp} {js' : List Nat} {ρ' : En} {σ' : St}, RpD F.K G' ρ' σ' → RpD F.K G' (dropAll js' ρ') σ' := by
    intro G' js'
    induction js' with
    | nil => intro ρ' σ' z; exact z
    | cons j js' ih =>
      intro ρ' σ' z
      refine ih (ρ' := ρ'.set j none) fun i d hd => ?_
      by_cases q : j = i
      · subst q
        rw [List.getElem?_set] at hd
        simp at hd
      · rw [List.getElem?_set_ne q] at hd
        exact z i d hd
  refine ⟨fun i m ys σ1 H2 => m = its.length - i ∧ i ≤ its.length ∧ σ1.length = own.length + fr.length ∧ H2 acc = some (.lst ys) ∧ ∃ G2 fq, Step G1 H1 G2 H2 ∧ OwL F.K G2 H2 (((List.range i).filter p).map f) ys fq ∧ Nw H1 G2 (acc :: fq) ∧ RpD F.K G2 (lcEn own fr ρ) σ1,
    ⟨_, rfl, Nat.zero_le _, by simp [lcStart], upd_same, G1, [], .newO s1.s hacc, ⟨rfl, rfl⟩, ⟨fun a ha => by rw [List.mem_singleton.mp ha]; exact hacc, fun a ha => by rw [List.mem_singleton.mp ha]; exact s1.s.free hacc, by simp⟩, (rpd_lc r).mono s1.g⟩, ?_⟩
  rintro i m ys σ1 H2 ⟨rfl, hi, hσ, ha2, G2, fq, s2, o2, w2, r2⟩
  have hlen : ys.length < sizeLine := by
    rw [← o2.length, List.length_map]
    have := List.length_filter_le p (List.range i)
    rw [List.length_range] at this
    omega
  refine ⟨ha2, hlen, ?_⟩
  obtain ⟨i1, i2⟩ := it i G2 H2 s2.g s2.s
  by_cases hlt : i < its.length
  · have hd : its[i]? = some its[i] := List.getElem?_eq_getElem hlt
    obtain ⟨j1, j2⟩ := i1 _ hd
    obtain ⟨dd, e1, el, ev⟩ := step i _ hd
    refine .inr ⟨j1, fun zs σ2 H3 => σ2.length = own.length + fr.length ∧ H3 acc = some (.lst zs) ∧ ∃ G3 fq, Step G1 H1 G3 H3 ∧ OwL F.K G3 H3 (((List.range (i + 1)).filter p).map f) zs fq ∧ Nw H1 G3 (acc :: fq) ∧ RpD F.K G3 (lcEn own fr ρ) σ2,
      fun zs σ2 H3 z => ⟨its.length - (i + 1), by omega, rfl, hlt, z⟩, fun x H3 y => ?_⟩
    obtain ⟨G3, s3, h3⟩ := j2 x H3 y
    refine qg _ dd x σ1 G3 H3 _ e1 s3.s h3 fun vs hvs => ?_
    have hjl : ∀ j ∈ js, j < σ1.length := fun j hj => by have := hjs j hj; omega
    have rr : RpD F.K G3 (setAll js (dd.map .fz) (lcEn own fr ρ)) (setAll js vs σ1) := RpD.setAll hjl hvs (r2.mono s3.g)
    have keepG : ∀ {Ga Ha Gb Hb : Hp} {fs : List Addr}, Step Ga Ha Gb Hb → (∀ a ∈ fs, Ga a = none) → (∀ a ∈ fs, ∃ o, Ha a = some o) → ∀ a ∈ fs, Gb a = none := fun {Ga Ha Gb Hb fs} st h1 h2 a ha => by
      cases q : Gb a with
      | none => rfl
      | some u =>
        obtain ⟨u', hu'⟩ := h2 a ha
        have := st.n a (h1 a ha) (by rw [q]; exact fun z => nomatch z)
        rw [hu'] at this; cases this
    have th2 : ∀ a ∈ acc :: fq, ∃ o, H2 a = some o := fun a ha => (List.mem_cons.mp ha).elim (fun z => ⟨_, z ▸ ha2⟩) (o2.there a)
    have er : (List.range (i + 1)).filter p = (List.range i).filter p ++ if p i = true then [i] else [] := by
      rw [List.range_succ, List.filter_append]
      congr 1
      simp only [List.filter_cons, List.filter_nil]
    obtain ⟨tt, pt, qt⟩ := el
    refine ⟨tt, pt, qt _ G3 H3 _ s3.s rr fun G5 H5 s5 => ?_⟩
    have s35 := s3.trans s5
    cases hp : p i with
    | false =>
      refine iteF ⟨by rw [setAll_len]; exact hσ, s35.h _ _ ha2, G5, fq, s2.trans s35, ?_, ⟨w2.n, keepG s35 w2.g th2, w2.d⟩, ?_⟩
      · rw [er, hp, if_neg (by decide), List.append_nil]
        exact o2.mono s35.g s35.h
      · have := rpDrop (js' := js) (rr.mono s5.g)
        rwa [hdrop dd] at this
    | true =>
      obtain ⟨te, pe, qe⟩ := ev hp
      refine iteT ⟨te, pe, qe _ G5 H5 _ s5.s (rr.mono s5.g) fun v G6 H6 f6 s6 o6 w6 => ?_⟩
      have s36 := s35.trans s6
      have ha6 := s36.h _ _ ha2
      have nf6 : ∀ a ∈ f6, a ∉ acc :: fq := fun a ha hb => by
        obtain ⟨u, hu⟩ := th2 a hb
        have := s35.h _ _ hu
        rw [w6.n a ha] at this; cases this
      have ndq := List.nodup_cons.mp w2.d
      have g6 := keepG s36 w2.g th2
      refine ⟨ha6, by rw [setAll_len]; exact hσ, upd_same, G6, fq ++ (f6 ++ []), ⟨(s2.trans s36).g, fun b u hb => ?_, fun b u hb => ?_, (s2.trans s36).n⟩, ?_, ⟨fun a ha => ?_, fun a ha => ?_, ?_⟩, ?_⟩
      · rw [upd_ne fun z => by subst z; rw [hacc] at hb; cases hb]
        exact (s2.trans s36).h b u hb
      · rw [upd_ne fun z => by subst z; rw [g6 _ (.head _)] at hb; cases hb]
        exact s6.s b u hb
      · rw [er, hp, if_pos rfl, List.map_append]
        refine OwL.append ((o2.mono s36.g s36.h).frame ndq.1) ⟨v, [], f6, [], rfl, rfl, o6.frame fun z => nf6 _ z (.head _), rfl, rfl⟩
      · rw [List.append_nil] at ha
        rcases List.mem_cons.mp ha with z | z
        · exact w2.n a (z ▸ .head _)
        · rcases List.mem_append.mp z with z | z
          · exact w2.n a (.tail _ z)
          · exact (s2.trans s35).h.free (w6.n a z)
      · rw [List.append_nil] at ha
        rcases List.mem_cons.mp ha with z | z
        · exact g6 a (z ▸ .head _)
        · rcases List.mem_append.mp z with z | z
          · exact g6 a (.tail _ z)
          · exact w6.g a z
      · rw [List.append_nil]
        refine List.nodup_cons.mpr ⟨fun z => ?_, List.nodup_append.mpr ⟨ndq.2, w6.d, fun a ha b hb z => ?_⟩⟩
        · rcases List.mem_append.mp z with z | z
          · exact ndq.1 z
          · exact nf6 _ z (.head _)
        · subst z; exact nf6 a hb (.tail _ ha)
      · have := rpDrop (js' := js) (rr.mono (s5.trans s6).g)
        rwa [hdrop dd] at this
  · have e : i = its.length := by omega
    subst e
    refine .inl ⟨i2 rfl, k1 (.ref acc) G2 H2 (acc :: fq) s2 ⟨acc, ys, fq, rfl, ha2, o2, rfl⟩ w2⟩
theorem ev_lc {ifs : List Expr} {sc : Scope} {own : List Str} {fr : List Nat} {cl : ι → List (Str × Addr)} (L : ∀ i, LcScope (F.cx i) sc (cl i) fr) (hi : EvI F tg iter ρ its) (hg : EvG (famLc F own fr sc cl) tg js sp) (hjs : ∀ j ∈ js, j < own.length)
    (p : Nat → Bool) (f : Nat → Tr) (hz : its.length < sizeLine)
    (step : ∀ k d, its[k]? = some d → ∃ dd, sp d = some dd ∧ El (famLc F own fr sc cl) ifs (setAll js (dd.map .fz) (lcEn own fr ρ)) (p k) ∧ (p k = true → Ev (famLc F own fr sc cl) elt (setAll js (dd.map .fz) (lcEn own fr ρ)) (f k)))
    (hdrop : ∀ dd : List Dv, dropAll js (setAll js (dd.map .fz) (lcEn own fr ρ)) = lcEn own fr ρ)
    (hs : ∀ i x, foldedSetIterable iter (F.cx i).env x = pure x := by intro _ _; rfl) :
    Ev F (.ListComp elt [⟨tg, iter, ifs, 0⟩] sc pos) ρ (.ow (((List.range its.length).filter p).map f)) := by
  obtain ⟨τ, ⟨wi, g, tt, te, rfl, h1, h2, h3, h4⟩, h5⟩ := elc (ifs := ifs) hi hg hjs p f hz step hdrop
  exact ⟨_, fun i => pe_lc (cl := cl i) (L i) (F.calm i) (h1 i) (fun C s H ex pn => h2 (i, ⟨C, s, H, ex, pn⟩)) (fun C s H ex pn => h3 (i, ⟨C, s, H, ex, pn⟩)) (fun C s H ex pn => h4 (i, ⟨C, s, H, ex, pn⟩)) (hs i), h5⟩
end
structure IxD (k : Nat) (qual : Str) (sc : Scope) (f : Addr) where
  cdv : Value
  A : Around
  outer : List Env
  s : Shared
  H : Hp
  E : XK
  hr : Room k (A.deeper (envOfC qual sc s.heap.objs.size f cdv))
def famD (P : Program) (w : World) (K : PySem.W.Frag) (mg : Str → Option Value) (base : Heap) (N : List Str) (qual : Str) (sc : Scope) (f : Addr) (k : Nat) : Fam (IxD k qual sc f) where
  cx i := (cxOf CX0 P w K mg base N qual sc f i.cdv i.A i.outer i.s i.H i.E).nox
  P := P
  w := w
  K := K
  mg := mg
  base := base
  room := k
  hP _ := rfl
  hw _ := rfl
  hK _ := rfl
  hm _ := rfl
  hb _ := rfl
  hr i := i.hr
  calm _ := rfl
def enD (N : List Str) (dd : List Dv) : En := dd.map (fun d => some (.fz d)) ++ List.replicate (N.length - dd.length) none
theorem ows_none {K : PySem.W.Frag} {G H : Hp} : ∀ n : Nat, OwS K G H (List.replicate n none) (List.replicate n none) []
  | 0 => ⟨rfl, rfl⟩
  | n + 1 => ⟨none, List.replicate n none, rfl, ows_none n⟩
theorem ows_start {K : PySem.W.Frag} {G H : Hp} {n : Nat} : ∀ {dd : List Dv} {vs : List V}, HvL K G dd vs → OwS K G H (dd.map (fun d => some (.fz d)) ++ List.replicate n none) (vs.map some ++ List.replicate n none) []
  | [], _, h => by rw [show _ = [] from h]; exact ows_none n
  | _ :: _, _, ⟨x, r, h1, h2, h3⟩ => by subst h1; exact ⟨x, _, [], [], rfl, rfl, ⟨rfl, h2⟩, ows_start h3⟩
theorem fn_ok {P : Program} {w : World} {K : PySem.W.Frag} {mg : Str → Option Value} {base : Heap} {x qual : Str} {st : Stmt} {dV : Value} {f : Addr} {fd : FuncData} {N ps : List Str} {k : Nat} {R : List Dv → Tr → Prop} (Fd : FunD K x qual st dV f fd) (S : FnScope N ps (defScope st))
    (hl : ∀ dd t, R dd t → dd.length = ps.length)
    (hb : ∀ dd t, R dd t → ∃ o, (o = .rt t ∨ (t = tn ∧ ∃ ρ', o = .nx ρ')) ∧ Rns (famD P w K mg base N qual (defScope st) f k) (defBody st) (enD N dd) o) : FnOk P w K mg base CX0 (k + 1) f fd ps (spT K R) := by
  refine Fd.ok S (fun vs H Q E ⟨G, dd, t, s, h1, h2, h3⟩ => by rw [← h1.length]; exact hl dd t h2) fun cdv A outer s H vs Q E hr h => ?_
  obtain ⟨G, dd, t, s', h1, h2, h3⟩ := h
  obtain ⟨o, ho, τ, x, y⟩ := hb dd t h2
  refine ⟨τ, x ⟨cdv, A, outer, s, H, E, hr⟩, y _ (start N vs) G H G H ⟨[], .refl s', ?_, fun _ z => (nomatch z), fun _ z => (nomatch z), .nil⟩ ?_⟩
  · unfold start enD
    rw [← h1.length]
    exact ows_start h1
  · rcases ho with rfl | ⟨rfl, ρ', rfl⟩
    · exact fun v G1 H1 fq s1 o1 w1 => h3 v G1 H1 fq s1 o1 w1
    · exact fun σ G1 H1 ⟨fp, r⟩ => h3 .non G1 H1 [] r.st ⟨rfl, rfl, rfl⟩ .nil
end L2
namespace L2
open PySem PySem.Spec PyProof.Rows
def Ite (K : PySem.W.Frag) (l : Addr) (xs : List V) : It :=
  ⟨fun i H => SqL K H l xs ∧ i < xs.length, fun i H x H' => ∃ T v, H T = none ∧ xs[i]? = some v ∧ x = .ref T ∧ H' = upd H T (.tup [.int (i : Nat), v]), fun i H => SqL K H l xs ∧ i = xs.length⟩
section
variable {X : Cx} {pins : List (Addr × Obj)} {σ : St} {H : Hp} {s : Shared}
theorem Inv.turnedL {t' : Nat} {fs : List Addr} {h' : Heap} (I : Inv X pins σ H s) (k : ∀ b o, b ∉ fs → s.heap.get? b = some o → h'.get? b = some o) (hf : ∀ b ∈ fs, FpOk X pins H b) : Inv X pins σ H { s with heap := h', toks := t' } := by
  have nit : ∀ b u, H b = some u → b ∉ fs := fun b u e z => by rw [(hf b z).1] at e; cases e
  refine I.step (g' := s.gens) (d' := s.drawn) (ch := fs) (fun b hb => ?_) (fun b o _ _ hc e _ => k b o hc e) (fun b o _ _ hc e _ => ⟨o.slots, k b o hc e⟩) (fun _ _ _ _ n => n)
    (fun b o hc e => ⟨o, k b o hc e⟩) (fun _ _ e => e) (fun _ _ _ e => e) (fun b ps e => ⟨#[], by rw [e]; simp⟩) (fun m hm => ?_) (fun b u e => ?_) I.bare
  · obtain ⟨f0, f1, f2, f3, f4, f5⟩ := hf b hb
    exact ⟨f3, f1, f4, f5⟩
  · obtain ⟨o, es, ep, ho, r⟩ := hm
    exact ⟨o, es, ep, k _ o (fun z => (hf _ z).2.1 rfl) ho, r⟩
  · refine (I.hok b u e).stay (fun c v hc q => k c v ?_ q) (fun _ q => q) fun _ _ q => q
    rcases hc with z | z
    · rw [z]; exact nit b u e
    · exact nit c _ z
theorem Inv.turnedT {t' : Nat} {fs : List Addr} {h' : Heap} {T : Addr} {vs : List V} (I : Inv X pins σ H s) (k : ∀ b o, b ∉ fs → s.heap.get? b = some o → h'.get? b = some o) (hf : ∀ b ∈ fs, FpOk X pins H b) (hT : s.heap.objs.size ≤ T)
    (new : ObjOk X.prog X.w (upd H T (.tup vs)) h' T (.tup vs)) : Inv X pins σ (upd H T (.tup vs)) { s with heap := h', toks := t' } := by
  have hn : H T = none := I.hok.fresh hT
  have nit : ∀ b u, H b = some u → b ∉ fs := fun b u e z => by rw [(hf b z).1] at e; cases e
  have ne : ∀ b o, s.heap.get? b = some o → b ≠ T := fun b o e z => by subst z; exact absurd (Nat.lt_of_lt_of_le (Heap.lt_size e) hT) (Nat.lt_irrefl _)
  refine I.step (g' := s.gens) (d' := s.drawn) (ch := fs) (fun b hb => ?_) (fun b o _ _ hc e _ => k b o hc e) (fun b o _ _ hc e _ => ⟨o.slots, k b o hc e⟩) (fun b o _ e n => by rw [upd_ne (ne b o e)]; exact n)
    (fun b o hc e => ⟨o, k b o hc e⟩) (fun _ _ e => by rw [upd_ne (ne_of_none e hn)]; exact e) (fun _ _ _ e => by rw [upd_ne (ne_of_none e hn)]; exact e) (fun b ps e => ⟨#[], by rw [upd_ne (ne_of_none e hn), e]; simp⟩) (fun m hm => ?_) (fun b u e => ?_) I.bare
  · obtain ⟨f0, f1, f2, f3, f4, f5⟩ := hf b hb
    exact ⟨f3, f1, f4, f5⟩
  · obtain ⟨o, es, ep, ho, r⟩ := hm
    exact ⟨o, es, ep, k _ o (fun z => (hf _ z).2.1 rfl) ho, r⟩
  · by_cases hb : b = T
    · subst hb; rw [upd_same] at e; cases e; exact new
    · rw [upd_ne hb] at e
      refine (I.hok b u e).stay (fun c v hc q => k c v ?_ q) (fun c q => by rw [upd_ne (ne_of_none q hn)]; exact q) fun c xs q => by rw [upd_ne (ne_of_none q hn)]; exact q
      rcases hc with z | z
      · rw [z]; exact nit b u e
      · exact nit c _ z
end
theorem turn_enum {P : Program} {w : World} {K : PySem.W.Frag} {elts : List Expr} {kk : Nat} {pos : Pos} {e it l : Addr} {xs : List V} (hei : e ≠ it) (hle : l ≠ e) (hli : l ≠ it) :
    Turn P w K (.Tuple elts kk pos) (Ite K l xs) [e, it] e (fun i h => (∃ old, IsEnum h e it i old) ∧ h.IsListIter it l i) where
  mem := by simp
  obj := by
    rintro i h ⟨⟨old, h1⟩, ⟨o1, h4, _, h5⟩⟩ b hb
    simp only [List.mem_cons, List.not_mem_nil, or_false] at hb
    rcases hb with rfl | rfl
    · exact ⟨_, h1, fun v z => by cases z⟩
    · exact ⟨_, h4, fun v z => by rw [h5] at z; cases z⟩
  keep := by
    rintro i h h' ⟨⟨old, h1⟩, h4⟩ k
    exact ⟨⟨old, k _ (by simp) _ h1⟩, h4.at fun o e => k _ (by simp) o e⟩
  item := by
    intro X hP hw hK hc i pins s σ H E I hf st hg
    subst hP hw hK
    obtain ⟨hq1, hlt⟩ := hg
    obtain ⟨its1, rv1, p1, hz1⟩ := I.list hq1
    have e1 := rv1.length
    have W := WalksT.enumerate (prog := X.prog) (w := X.w) (A := X.A) (I.ok.hd hc) e it l hei hle hli its1.toArray
    refine W.item i s _ _ (by simp; omega) ⟨st.1, st.2, p1.isList⟩ fun T vals h' tk hPt hTn hTup hMid hk => ⟨.ref T, rfl, W.go elts kk pos i T _ _ _ hMid fun h'' st'' hk'' => ?_⟩
    obtain ⟨t, x, hx, rfl⟩ := hPt
    have hx1 : xs[i]? = some (xs[i]'(by omega)) := List.getElem?_eq_getElem _
    obtain ⟨u, hu, ru⟩ := rv1.get hx1
    have ex : x = u := by
      have : its1[i]? = some x := by simpa using hx
      rw [hu] at this; exact (Option.some.inj this).symm
    subst ex
    have hT2 : IsTup h'' T [Value.int (i : Nat) t, x].toArray := hTup.at fun o e => hk'' T o (W.apart i T _ hMid) e
    refine ⟨.ref T, upd H T (.tup [.int (i : Nat), xs[i]'(by omega)]), I.turnedT (fs := [e, it]) (fun b o hb e => hk'' b o hb (hk b o hb e)) hf hTn ⟨by show 2 ≤ sizeLine; decide, [.int (i : Nat) t, x], .cons ⟨t, rfl⟩ (.cons ru .nil), hT2⟩, rfl,
      ⟨T, _, I.hok.fresh hTn, hx1, rfl, rfl⟩, ⟨st''.1, st''.2.1⟩, fun b hb => ?_⟩
    obtain ⟨o, eo, _⟩ : ∃ o, s.heap.get? b = some o ∧ True := by
      obtain ⟨⟨old, g1⟩, ⟨o1, g4, _⟩⟩ := st
      simp only [List.mem_cons, List.not_mem_nil, or_false] at hb
      rcases hb with rfl | rfl
      · exact ⟨_, g1, trivial⟩
      · exact ⟨_, g4, trivial⟩
    rw [upd_ne (Nat.ne_of_lt (Nat.lt_of_lt_of_le (Heap.lt_size eo) hTn))]
    exact (hf b hb).1
  done := by
    intro X hP hw hK hc i pins s σ H E I hf st hg
    subst hP hw hK
    obtain ⟨hq1, rfl⟩ := hg
    obtain ⟨its1, rv1, p1, hz1⟩ := I.list hq1
    have e1 := rv1.length
    have W := WalksT.enumerate (prog := X.prog) (w := X.w) (A := X.A) (I.ok.hd hc) e it l hei hle hli its1.toArray
    have en : its1.toArray.size = xs.length := by simp only [List.size_toArray]; omega
    exact W.done s _ _ (by rw [en]; exact ⟨st.1, st.2, p1.isList⟩) fun h' tk hk => ⟨rfl, I.turnedL (fs := [e, it]) hk hf⟩
  self := fun A i s Q E st h => by
    obtain ⟨⟨old, h1⟩, _⟩ := st
    exact wpAny_pyIter_enum h1 h
def iEnu (K : PySem.W.Frag) (ta : TA) : TI := fun σ H R => ta σ H fun vs H1 => ∃ l xs, vs = [.ref l] ∧ SqL K H1 l xs ∧ R (Ite K l xs) H1
section
variable {X : Cx} {elts : List Expr} {kk : Nat} {tp : Pos}
theorem pi_enum {a : Expr} {ta : TA} {p pos : Pos} (hg : Gl X "enumerate") (hm : X.mg "enumerate" = none) (ha : PA X [a] ta) (hs : starEach [a] X.env = [(false, eval a X.env)] := by rfl) :
    PI X (.Tuple elts kk tp) (.Call (.Name "enumerate" p) [a] [] pos) (iEnu X.K ta) := by
  intro pins s σ H R I h
  refine Call_ (ld_blt I hg hm bt_enumerate (PyProof.Rows.callWith_type1 (thn (ha pos pins s σ H _ I h) fun us s1 ⟨vs, H1, I1, r1, q1⟩ => ?_) hs rfl))
  obtain ⟨l, xs, rfl, hq1, q⟩ := q1
  obtain ⟨u1, rfl, c1⟩ := r1.one
  cases c1
  obtain ⟨its1, rv1, p1, hz1⟩ := I1.list hq1
  have lt1 : l < s1.heap.objs.size := by obtain ⟨o, n, e, _⟩ := p1; exact Heap.lt_size e
  refine call_enumerate_list p1.isList fun h' hE hI hsz hk => wpAny_pyIter_enum hE ?_
  have I2 : Inv X pins σ H1 { s1 with heap := h' } := I1.kept (t' := s1.toks) hk
  refine ⟨s1.heap.objs.size + 1, [s1.heap.objs.size + 1, s1.heap.objs.size], _, _, H1, rfl, I2, turn_enum (Nat.succ_ne_self _) (PySem.W.ktu_ne 1 lt1) (Nat.ne_of_lt lt1), ⟨⟨_, hE⟩, hI⟩, fun b hb => ?_, q⟩
  have hb' : s1.heap.objs.size ≤ b := by
    simp only [List.mem_cons, List.not_mem_nil, or_false] at hb
    rcases hb with rfl | rfl <;> omega
  obtain ⟨f0, f1, f2, f3, f4, f5⟩ := I1.fpOk (H' := H1) hb' (I1.hok.fresh hb')
  exact ⟨f0, f1, f2, f3, f4, f5⟩
end
section
variable {ι : Type} {F : Fam ι} {a b tg : Expr} {ρ : En} {ta tb' : Tr} {elts : List Expr} {kk : Nat} {tp pos : Pos}
def enuD (xs : List Dv) : List Dv := (List.range xs.length).zipWith (fun k x => .tup [di (k : Nat), x]) xs
theorem evi_enum {xs : List Dv} (hm : F.mg "enumerate" = none) (ha : Ev F a ρ ta) (ea : er ta = .lst xs) {p : Pos} (hg : ∀ i, Gl (F.cx i) "enumerate" := by intro _; rfl)
    (hs : ∀ i, starEach [a] (F.cx i).env = [(false, eval a (F.cx i).env)] := by intro _; rfl) : EvI F (.Tuple elts kk tp) (.Call (.Name "enumerate" p) [a] [] pos) ρ (enuD xs) := by
  obtain ⟨τ, p, q⟩ := (eva_cons ha eva_nil hs).use
  refine ⟨iEnu F.K τ, fun i => F.hK i ▸ pi_enum (hg i) ((F.hm i).symm ▸ hm) (p i) (hs i), fun σ G H R s r k => q σ G H _ s r fun vs G1 H1 s1 hx => ?_⟩
  obtain ⟨x, rfl, h1⟩ := hvl1 hx
  rw [ea] at h1
  obtain ⟨l1, us, rfl, g1, g2⟩ := h1
  have e1 := g2.length
  refine ⟨l1, us, rfl, s1.s.seq g1, k _ G1 H1 s1 fun j G2 H2 sg sh => ⟨fun d hd => ?_, fun hz => ?_⟩⟩
  · unfold enuD at hd
    rw [List.getElem?_zipWith] at hd
    cases qx : xs[j]? with
    | none =>
      rw [qx] at hd
      cases q2 : (List.range xs.length)[j]? with
      | none => rw [q2] at hd; cases hd
      | some z => rw [q2] at hd; cases hd
    | some dx =>
      have lj : j < xs.length := (List.getElem?_eq_some_iff.mp qx).1
      rw [qx, List.getElem?_range lj] at hd
      cases hd
      obtain ⟨vx, x1, x2⟩ := g2.get qx
      refine ⟨⟨(sg.trans sh).seq g1, by omega⟩, ?_⟩
      rintro x H3 ⟨T, wx, hT, z1, rfl, rfl⟩
      rw [x1] at z1
      cases z1
      exact ⟨_, .new sh hT, T, _, rfl, SqT.of upd_same, _, _, rfl, ⟨rfl, rfl⟩, _, _, rfl, (x2.mono sg).mono (Same.new (sh.free hT)), rfl⟩
  · refine ⟨(sg.trans sh).seq g1, ?_⟩
    rw [hz]
    unfold enuD
    rw [List.length_zipWith, List.length_range, Nat.min_self, e1]
theorem tupOf_some {n : Nat} {ds dd : List Dv} (e : tupOf n (.tup ds) = some dd) : ds.length = n ∧ dd = ds := by
  have e' : (if ds.length = n then some ds else none) = some dd := e
  by_cases h : ds.length = n
  · rw [if_pos h] at e'; cases e'; exact ⟨h, rfl⟩
  · rw [if_neg h] at e'; cases e'
theorem evg_t2 (j1 j2 : Nat) {x y : Str} {px py : Pos} (hN : ∀ i, (F.cx i).N.Nodup) (h1 : ∀ i, (F.cx i).N[j1]? = some x := by intro _; rfl) (h2 : ∀ i, (F.cx i).N[j2]? = some y := by intro _; rfl)
    (hx : ∀ i, Loc (F.cx i).env.scope x := by intro _; first | exact Or.inl rfl | exact Or.inr rfl) (hy : ∀ i, Loc (F.cx i).env.scope y := by intro _; first | exact Or.inl rfl | exact Or.inr rfl)
    (fx : ∀ i, (F.cx i).fn x = true ∨ (F.cx i).env.scope.names.lookup x = some .local := by intro _; first | exact .inl rfl | exact .inr rfl) (fy : ∀ i, (F.cx i).fn y = true ∨ (F.cx i).env.scope.names.lookup y = some .local := by intro _; first | exact .inl rfl | exact .inr rfl) :
    EvG F (.Tuple [.Name x px, .Name y py] kk tp) [j1, j2] (tupOf 2) :=
  ⟨gTup F.K 2 (gCons (gName j1) (gCons (gName j2) gNil)), fun i => F.hK i ▸ pg_tup (F.calm i) (pgs_cons (pg_name (hN i) (h1 i) (hx i) (fx i)) (pgs_cons (pg_name (hN i) (h2 i) (hy i) (fy i)) pgs_nil)), fun d dd v σ G H Q e s h k => by
    cases d with
    | fl _ => cases e
    | lst _ => cases e
    | tup ds =>
      obtain ⟨hl, rfl⟩ := tupOf_some e
      obtain ⟨a, vs, rfl, q1, q2⟩ := h
      have hv : vs.length = 2 := by rw [← q2.length]; exact hl
      refine ⟨a, vs, rfl, s.tup q1, hv, ?_⟩
      match vs, hv with
      | [v1, v2], _ => exact ⟨v1, [v2], rfl, v2, [], rfl, rfl, k [v1, v2] q2⟩⟩
theorem rn_set2 {e : Expr} {t : Tr} {js : List Nat} {sp : Dv → Option (List Dv)} {dd : List Dv} (he : EvS F e ρ t) (hg : EvG F tg js sp) (hd : sp (er t) = some dd) (hj : js.all (fun j => Nat.blt j ρ.length) = true := by rfl)
    (hs : ∀ i, swapsWithSole [tg] e pos.line (F.cx i).env = pure false := by intro _; rfl) (hw : ∀ i, swappedStores [tg] e (F.cx i).env = pure none := by intro _; rfl)
    (h1 : ∀ i, (assignEach [tg] (F.cx i).env).map (·.2) = [assign tg (F.cx i).env] := by intro _; rfl) : Rn F (.Assign [tg] e pos) ρ (.nx (setAll js (dd.map .fz) ρ)) := by
  obtain ⟨τ, y, z⟩ := he
  obtain ⟨g, pg, qg⟩ := hg
  refine ⟨tAsg τ g, fun i => ps_asg (y i) (pg i) (hs i) (hw i) (h1 i), fun D σ G0 H0 G H r k => ?_⟩
  obtain ⟨fp, r⟩ := r
  refine z σ G H fp _ r.st.s r.own r.g fun v G1 H1 fq s1 o w => ?_
  refine qg (er t) dd v σ (frzd G1 H1 fq) H1 _ hd (frzd_sub s1.s) (o.hv (frzd_same w.g) fun a ha => frzd_in ha) fun vs hvs => k _ (frzd G1 H1 fq) H1 (RS.setAll (blts hj) hvs ⟨fp, r.st.trans (s1.frz w), r.own.mono (s1.frz w).g s1.h, fun a ha => ?_, r.n, r.d⟩)
  cases q : frzd G1 H1 fq a with
  | none => rfl
  | some u =>
    obtain ⟨u', hu'⟩ := r.own.there a ha
    have := (s1.frz w).n a (r.g a ha) (by rw [q]; exact fun z => nomatch z)
    rw [hu'] at this; cases this
end
end L2
namespace L2
open PySem PySem.Spec PyProof.Rows
theorem ps_lcset {X : Cx} {elt tg iter : Expr} {ifs : List Expr} {sc : Scope} {cl : List (Str × Addr)} {own : List Str} {fr : List Nat} {pos spos py : Pos} {wi : TI} {g : TG} {tt : TT} {te : TE} {y0 : Str} {j0 : Nat}
    (L : LcScope X sc cl fr) (hc : X.calm = true) (hi : PI X tg iter wi)
    (hg : ∀ C s H ex pn, PG (cxLc X own fr sc cl C s H ex pn) tg g)
    (ht : ∀ C s H ex pn (pins : List (Addr × Obj)) (s1 : Shared) (σ1 : St) (H1 : Hp) (Q : Bool → Hp → Prop), Inv (cxLc X own fr sc cl C s H ex pn) pins σ1 H1 s1 → tt σ1 H1 Q →
      wpAny (model X.prog X.w) X.A (lcTests ifs (compEnvC sc (cellsFrom (C + 1) sc.names cl) C X.env)) (TP (cxLc X own fr sc cl C s H ex pn) pins σ1 Q) NoX s1)
    (he : ∀ C s H ex pn, PE (cxLc X own fr sc cl C s H ex pn) elt te) (hN0 : X.N.Nodup) (hj0 : X.N[j0]? = some y0) (hx0 : Loc X.env.scope y0)
    (hsw : swapsWith (.ListComp elt [⟨tg, iter, ifs, 0⟩] sc pos) (some (.Name y0 py)) spos.line X.env = pure true) (hf0 : X.fn y0 = true ∨ X.env.scope.names.lookup y0 = some .local) (hs : ∀ x, foldedSetIterable iter X.env x = pure x := by intro _; rfl) :
    PS X (.Assign [.Name y0 py] (.ListComp elt [⟨tg, iter, ifs, 0⟩] sc pos) spos) (tAsg (tLc wi g tt te own fr) (gName j0)) := by
  intro pins s σ H D I h
  rw [exec_Assign_Name_used _ _ _ _ hsw]
  refine wpAny_bind (wpAny_standAt (wpAny_bind ?_))
  show wpAny _ X.A (do let _ ← comprehension (.ListComp elt [⟨tg, iter, ifs, 0⟩] sc pos) sc X.env _ (newList []) false (eval iter X.env) (some (assign (.Name y0 py) X.env))) _ _ s
  refine wpAny_bind (wpAny_mono (wpAny_comprehension_free (use := some (assign (.Name y0 py) X.env)) (Q := fun _ s' => SP X pins D .next s') rfl hs L.clos L.kind L.names (thn (hi pins s σ H _ I h) fun v s1 h1 => thn h1 fun itv s2 h2 => ?_)) (fun _ s' hq => wpAny_pure (wpAny_pure hq)) fun _ _ e => e)
  obtain ⟨it, fp, tn, J, H2, e, I2, T, st2, f2, h2⟩ := h2
  subst e
  refine wpAny_newObj_type ?_
  have I3 : Inv X pins σ (upd H2 s2.heap.objs.size (.lst [])) { s2 with heap := s2.heap.push { cls := .type "list", data := .seq ([] : List Value).toArray } } := I2.lnew (t' := s2.toks) .nil (Nat.zero_le _)
  have n2 : H2 s2.heap.objs.size = none := I2.fresh
  obtain ⟨W, ⟨m0, w0⟩, turn⟩ := h2 _ n2
  have lt2 : ∀ b ∈ fp, b < s2.heap.objs.size := fun b hb => by
    obtain ⟨o, eo, _⟩ := T.obj 0 _ st2 b hb
    exact Heap.lt_size eo
  have fp3 : ∀ b ∈ fp, FpOk X pins (upd H2 s2.heap.objs.size (.lst [])) b := fun b hb => ⟨by rw [upd_ne (Nat.ne_of_lt (lt2 b hb))]; exact (f2 b hb).1, (f2 b hb).2⟩
  generalize hs3 : ({ s2 with heap := s2.heap.push { cls := .type "list", data := .seq ([] : List Value).toArray } } : Shared) = s3 at I3
  have st3 : tn 0 s3.heap := by
    rw [← hs3]
    exact T.keep 0 _ _ st2 fun b hb o eo => Heap.get?_push_of_some _ eo
  have lt3 : ∀ b ∈ fp, b < s3.heap.objs.size := fun b hb => by
    obtain ⟨o, eo, _⟩ := T.obj 0 _ st3 b hb
    exact Heap.lt_size eo
  generalize hH3 : upd H2 s2.heap.objs.size (.lst []) = H3 at I3 fp3 w0
  generalize s2.heap.objs.size = acc at turn w0 hH3 ⊢
  refine newEnv_cells ?_
  have hns : (pushCells (s3.heap.push { cls := .type "dict", data := .dict #[] }) sc.names).Ns s3.heap.objs.size fun _ => none := (Heap.Ns.new s3.heap (.type "dict")).keeps (pushCells_keeps _ _)
  have kp : ∀ b o, s3.heap.get? b = some o → (pushCells (s3.heap.push { cls := .type "dict", data := .dict #[] }) sc.names).get? b = some o := fun b o eo => pushCells_keeps _ _ b o (Heap.get?_push_of_some _ eo)
  have ncl : ∀ y c, (cellsFrom (s3.heap.objs.size + 1) sc.names cl).lookup y = some c → cl.lookup y = some c ∨ (pushCells (s3.heap.push { cls := .type "dict", data := .dict #[] }) sc.names).IsCell c none := fun y c e =>
    cf_cell sc.names (s3.heap.push { cls := .type "dict", data := .dict #[] }) cl y c (by rw [Heap.size_push]; exact e)
  generalize hh4 : pushCells (s3.heap.push { cls := .type "dict", data := .dict #[] }) sc.names = h4 at hns kp ncl
  have I4 := lcInv (own := own) (tk := s3.toks) L I3 fp3 lt3 hns kp ncl
  have st4 : tn 0 h4 := T.keep 0 _ _ st3 fun b hb o eo => kp b o eo
  have stat : ∀ {H' : Hp}, (∀ b ∈ fp, H' b = none) → ∀ b ∈ fp, FpOk (cxLc X own fr sc cl s3.heap.objs.size s3 H3 fp (X.pn ++ pins)) [] H' b := fun {H'} hn b hb =>
    ⟨hn b hb, Nat.ne_of_lt (lt3 b hb), fun z => (List.mem_cons.mp (I3.stkSub b z)).elim (fp3 b hb).2.1 (fp3 b hb).2.2.1, .inl hb, fun y c e => (cf_lookup _ _ _ y c e).elim (fun q => (fp3 b hb).2.2.2.2.1 y c (L.sub y c q)) fun q => Nat.ne_of_gt (Nat.lt_of_lt_of_le (lt3 b hb) (Nat.le_of_succ_le q.1)), fun p hp => (fp3 b hb).2.2.2.2.2 p (by
      have z : p ∈ (X.pn ++ pins) ++ [] := hp
      simpa using z)⟩
  have loop : codeAny (model X.prog X.w) X.A (.compLoop (.ListComp elt [⟨tg, iter, ifs, 0⟩] sc pos) 0 (.ref it) (.ref acc) (compEnvC sc (cellsFrom (s3.heap.objs.size + 1) sc.names cl) s3.heap.objs.size X.env))
      (compPost (model X.prog X.w) X.A X.xe (some (assign (.Name y0 py) X.env)) (fun _ s' => SP X pins D .next s') (.ref acc) s3.heap.objs.size) { s3 with heap := h4, toks := s3.toks } := by
    refine lcLoop (fun n s' => ∃ i ys σ1 H1, Inv (cxLc X own fr sc cl s3.heap.objs.size s3 H3 fp (X.pn ++ pins)) [] σ1 H1 s' ∧ tn i s'.heap ∧ (∀ b ∈ fp, H1 b = none) ∧ W i n ys σ1 H1) ?_ m0 ⟨0, [], _, H3, I4, st4, fun b hb => (fp3 b hb).1, w0⟩
    rintro n s5 ⟨i, ys, σ5, H5, I5, st5, fr5, w5⟩
    obtain ⟨hacc, hlen, hh⟩ := turn i n ys σ5 H5 w5
    rcases hh with ⟨stop, qn⟩ | ⟨go, N, hN, step⟩
    · refine thn (T.done (cxLc X own fr sc cl s3.heap.objs.size s3 H3 fp (X.pn ++ pins)) rfl rfl rfl hc i [] s5 σ5 H5 NoX I5 (stat fr5) st5 stop) fun r s6 ⟨hr, I6⟩ => ?_
      subst hr
      obtain ⟨m6, ns6, _⟩ := id I6.loc
      have back : ∀ h7, Heap.SameBut s3.heap.objs.size s6.heap h7 → Inv X pins σ H5 { s6 with heap := h7 } := fun h7 sb7 => by
        have old : ∀ b o, s3.heap.get? b = some o → b ≠ s3.heap.objs.size := fun b o eo => Nat.ne_of_lt (Heap.lt_size eo)
        have u6 : Un (frs X.stack) fp H3 H5 s3.heap s6.heap := I6.base
        have u7 : Un (frs X.stack) fp H3 H5 s3.heap h7 :=
          ⟨fun b o eo nn hb hx => (sb7.2 b (old b o eo)).trans (u6.keep b o eo nn hb hx), fun b o eo nn hb hx => by
            obtain ⟨sl, q⟩ := u6.slot b o eo nn hb hx
            exact ⟨sl, (sb7.2 b (old b o eo)).trans q⟩, u6.free, fun b o eo hx => by
            obtain ⟨o', q⟩ := u6.there b o eo hx
            exact ⟨o', (sb7.2 b (old b o eo)).trans q⟩, u6.tups, u6.frzs, u6.tbls⟩
        have fC : H5 s3.heap.objs.size = none := I6.free
        have hok7 : HOk X.prog X.w H5 h7 := fun b ob eb => by
          refine (I6.hok b ob eb).stay (fun c w' hc' q => (sb7.2 c ?_).trans q) (fun _ q => q) fun _ _ q => q
          rintro rfl
          rcases hc' with z | z
          · rw [← z, fC] at eb; cases eb
          · rw [fC] at z; cases z
        exact I3.call' (s' := { s6 with heap := h7 }) I6.os u7 hok7 I6.bare fun b hb => ⟨(fp3 b hb).2.2.2.1, (fp3 b hb).2.1, (fp3 b hb).2.2.2.2.1, (fp3 b hb).2.2.2.2.2⟩
      have fC0 : H5 s3.heap.objs.size = none := I6.free
      show wpAny _ _ (assign (.Name y0 py) X.env (.ref acc)) _ X.xe s6
      refine wpAny_assign_Name (store_ok2 (v := .ref acc) (back s6.heap (Heap.SameBut.refl ..)) hN0 hj0 hx0 rfl (fun s7 I7 ⟨a, sb, ha⟩ => ?_) hf0)
      have aC : s3.heap.objs.size ≠ a := by
        rcases ha with rfl | ha
        · exact Nat.ne_of_gt I3.lt
        · obtain ⟨v0, q0⟩ := I3.cell y0 a ha
          exact Nat.ne_of_gt q0.lt
      refine ⟨m6, ns6.sameBut sb aC, fun h8 sb8 => ⟨_, H5, ?_, qn⟩⟩
      exact Inv.turnedL (t' := s7.toks) (fs := [s3.heap.objs.size]) I7 (fun b o hb e => (sb8.2 b (fun z => hb (by rw [z]; exact .head _))).trans e) (fun b hb => by
        rw [List.mem_singleton.mp hb]
        exact I3.fpOk (H' := H5) (Nat.le_refl _) fC0)
    · refine thn (T.item (cxLc X own fr sc cl s3.heap.objs.size s3 H3 fp (X.pn ++ pins)) rfl rfl rfl hc i [] s5 σ5 H5 NoX I5 (stat fr5) st5 go) fun r s6 ⟨u, hr, h6⟩ => ?_
      subst hr
      refine thn h6 fun _ s7 ⟨x, H7, I7, r7, y7, st7, fr7⟩ => ?_
      have I7' := I7.pinned (stat fr7) (T.obj _ _ st7)
      refine thn (hg _ _ _ _ _ _ s7 σ5 H7 x u _ I7' r7 (step x H7 y7)) fun _ s8 ⟨σ8, H8, I8, q8⟩ => ?_
      have again : ∀ {zs : List V} {σ9 : St} {H9 : Hp} {s9 : Shared}, Inv (cxLc X own fr sc cl s3.heap.objs.size s3 H3 fp (X.pn ++ pins)) ([] ++ pinsAt fp s7.heap) σ9 H9 s9 → N zs σ9 H9 →
          ∃ m, m < n ∧ ∃ i ys σ1 H1, Inv (cxLc X own fr sc cl s3.heap.objs.size s3 H3 fp (X.pn ++ pins)) [] σ1 H1 s9 ∧ tn i s9.heap ∧ (∀ b ∈ fp, H1 b = none) ∧ W i m ys σ1 H1 := fun {zs σ9 H9 s9} I9 n9 => by
        obtain ⟨m', hm, w9⟩ := hN zs σ9 H9 n9
        refine ⟨m', hm, i + 1, zs, σ9, H9, I9.unpinned, T.keep _ _ _ st7 fun b hb o e => (I9.pin (b, o) (List.mem_append_right _ (List.mem_append_right _ (mem_pinsAt hb e)))).1, fun b hb => ?_, w9⟩
        obtain ⟨o, e, d⟩ := T.obj _ _ st7 b hb
        exact (I9.pin (b, o) (List.mem_append_right _ (List.mem_append_right _ (mem_pinsAt hb e)))).2.1
      refine thn (ht _ _ _ _ _ _ s8 σ8 H8 _ I8 q8) fun ok s9 ⟨H9, I9, q9⟩ => ?_
      cases ok with
      | false => exact again I9 (by simpa using q9)
      | true =>
        refine thn (he _ _ _ _ _ _ s9 σ8 H9 _ I9 q9) fun z s10 ⟨y, H10, I10, r10, a10, q10⟩ => ?_
        refine thn (mt_append _ s10 σ8 H10 (.ref acc) [y] (.ref acc) [z] (fun _ H' => N (ys ++ [y]) σ8 H') I10 rfl (.cons r10 .nil) ⟨acc, ys, y, rfl, rfl, a10, hlen, q10⟩) fun _ s11 ⟨_, H11, I11, _, q11⟩ => again I11 q11
  rw [← hs3] at loop ⊢
  exact codeAny_compStart_list loop (noX (T.self _ 0 _ _ _ st4 (by rw [hs3]; rw [hs3] at loop; exact loop)))
section
variable {ι : Type} {F : Fam ι} {elt tg iter : Expr} {ifs : List Expr} {sc : Scope} {own : List Str} {fr : List Nat} {cl : ι → List (Str × Addr)} {ρ : En} {t : Tr} {pos spos py : Pos}
theorem ElcS (h : Elc F own fr sc cl elt tg iter ifs ρ t) : ∃ τ, LcV F own fr sc cl elt tg iter ifs τ ∧ ∀ σ G H fp Q, Same G H → OwS F.K G H ρ σ fp → (∀ a ∈ fp, G a = none) → Kv F.K G H t Q → τ σ H Q :=
  let ⟨τ, v, y⟩ := h; ⟨τ, v, fun σ G H fp Q s r _ k => y σ G H Q s r.rpd k⟩
theorem rn_lcG (j : Nat) {x : Str} (h : ∃ τ, LcV F own fr sc cl elt tg iter ifs τ ∧ ∀ σ G H fp Q, Same G H → OwS F.K G H ρ σ fp → (∀ a ∈ fp, G a = none) → Kv F.K G H t Q → τ σ H Q) (L : ∀ i, LcScope (F.cx i) sc (cl i) fr) (hN : ∀ i, (F.cx i).N.Nodup) (hj : Nat.blt j ρ.length = true := by rfl) (hi : ∀ i, (F.cx i).N[j]? = some x := by intro _; rfl)
    (hx : ∀ i, Loc (F.cx i).env.scope x := by intro _; first | exact Or.inl rfl | exact Or.inr rfl) (hsw : ∀ i, swapsWith (.ListComp elt [⟨tg, iter, ifs, 0⟩] sc pos) (some (.Name x py)) spos.line (F.cx i).env = pure true := by intro _; rfl)
    (hf : ∀ i, (F.cx i).fn x = true ∨ (F.cx i).env.scope.names.lookup x = some .local := by intro _; first | exact .inl rfl | exact .inr rfl) (hs : ∀ i x, foldedSetIterable iter (F.cx i).env x = pure x := by intro _ _; rfl) :
    Rn F (.Assign [.Name x py] (.ListComp elt [⟨tg, iter, ifs, 0⟩] sc pos) spos) ρ (.nx (ρ.set j (some t))) := by
  obtain ⟨τ, ⟨wi, g, tt, te, rfl, h1, h2, h3, h4⟩, z⟩ := h
  refine ⟨_, fun i => ps_lcset (cl := cl i) (L i) (F.calm i) (h1 i) (fun C s H ex pn => h2 (i, ⟨C, s, H, ex, pn⟩)) (fun C s H ex pn => h3 (i, ⟨C, s, H, ex, pn⟩)) (fun C s H ex pn => h4 (i, ⟨C, s, H, ex, pn⟩)) (hN i) (hi i) (hx i) (hsw i) (hf i) (hs i), fun D σ G0 H0 G H r k => ?_⟩
  obtain ⟨fp, r⟩ := r
  exact z σ G H fp _ r.st.s r.own r.g fun v G1 H1 fq s1 o w => k _ G1 H1 (r.set (Nat.le_of_ble_eq_true hj) s1 o w)
theorem Elc.as {d : Dv} (h : Elc F own fr sc cl elt tg iter ifs ρ t) (e : er t = d) : Elc F own fr sc cl elt tg iter ifs ρ (.fz d) := by
  obtain ⟨τ, v, q⟩ := h
  refine ⟨τ, v, fun σ G H Q s r k => q σ G H Q s r fun v G' H' fq st o w => ?_⟩
  exact k v (frzd G' H' fq) H' [] (st.frz w) ⟨rfl, e ▸ o.hv (frzd_same w.g) fun a ha => frzd_in ha⟩ .nil
end
end L2
namespace L2
open PySem PySem.Spec PyProof.Rows
section
variable {X : Cx}
end
section
variable {ι : Type} {F : Fam ι} {e a b c : Expr} {es : List Expr} {ρ : En} {t ta tb' tc : Tr} {ts : List Tr} {pos : Pos}
theorem et_chain {op op' : CmpOp} {i j k : Int} {f g : Int → Int → Bool} (ho : ∀ i, OpR (F.cx i) (compareOp op) (rI0 fun i j => .bl (f i j))) (ho' : ∀ i, OpR (F.cx i) (compareOp op') (rI0 fun i j => .bl (g i j))) (ha : Ev F a ρ (ti i)) (hb : Ev F b ρ (ti j)) (hc : Ev F c ρ (ti k))
    (hm : lastMarks [op, op'] [b, c] = false := by with_unfolding_all rfl) : Et F (.Compare a [op, op'] [b, c] pos) ρ (f i j && g j k) := by
  obtain ⟨τ, p, q⟩ := ha.use
  obtain ⟨τ', p', q'⟩ := hb.use
  obtain ⟨τ'', p'', q''⟩ := hc.use
  refine ⟨tTest (tChain _ _ τ τ' τ''), fun n => pt_chain (ho n) (ho' n) (p n) (p' n) (p'' n) hm, fun σ G H Q s rr kk => ?_⟩
  refine q σ G H _ s rr fun x G1 H1 s1 hx => q' σ G1 H1 _ s1.s (rr.mono s1.g) fun y G2 H2 s2 hy => ⟨i, j, hvi hx, hvi hy, f i j, rfl, ?_⟩
  cases hf : f i j with
  | false =>
    have := kk G2 H2 (s1.trans s2)
    rw [hf, Bool.false_and] at this
    exact iteF ⟨false, rfl, this⟩
  | true =>
    refine iteT (q'' σ G2 H2 _ s2.s (rr.mono (s1.trans s2).g) fun z G3 H3 s3 hz => ⟨j, k, hvi hy, hvi hz, g j k, rfl, ?_⟩)
    have := kk G3 H3 ((s1.trans s2).trans s3)
    rw [hf, Bool.true_and] at this
    exact this
theorem et_chain_le_lt {i j k : Int} (ha : Ev F a ρ (ti i)) (hb : Ev F b ρ (ti j)) (hc : Ev F c ρ (ti k)) (hm : lastMarks [.LtE, .Lt] [b, c] = false := by with_unfolding_all rfl) : Et F (.Compare a [.LtE, .Lt] [b, c] pos) ρ (decide (i ≤ j) && decide (j < k)) :=
  et_chain (f := fun i j => decide (i ≤ j)) (g := fun i j => decide (i < j)) (fun _ => op_le) (fun _ => op_lt) ha hb hc hm
theorem hvl_bools {K : PySem.W.Frag} {G : Hp} : ∀ {bs : List Bool} {vs : List V}, HvL K G (bs.map db) vs → vs = bs.map V.bl
  | [], _, h => h
  | _ :: _, _, ⟨x, r, h1, h2, h3⟩ => by subst h1; rw [hvi h2, hvl_bools h3]; rfl
theorem OwL.child {K : PySem.W.Frag} {G H : Hp} : ∀ {us : List Tr} {vs : List V} {fq : List Addr} {i : Nat} {ws : List Tr}, OwL K G H us vs fq → us[i]? = some (.ow ws) → fq.Nodup →
    ∃ l xs fw, vs[i]? = some (.ref l) ∧ l ∈ fq ∧ H l = some (.lst xs) ∧ OwL K G H ws xs fw ∧ (∀ a ∈ fw, a ∈ fq) ∧ fw.Nodup ∧ l ∉ fw ∧ ∀ ws' xs' fw', OwL K G H ws' xs' fw' → fw'.Nodup → (∀ a ∈ fw', a ∈ fw ∨ a ∉ fq) → l ∉ fw' →
      ∃ fq', OwL K G (upd H l (.lst xs')) (us.set i (.ow ws')) vs fq' ∧ fq'.Nodup ∧ ∀ a ∈ fq', a ∈ fq ∨ a ∈ fw'
  | u :: us, _, _, 0, ws, ⟨v, r, f1, f2, h1, h2, h3, h4⟩, hi, nd => by
    cases hi
    subst h1 h2
    obtain ⟨l, xs, fw, rfl, hl, ow, rfl⟩ := h3
    have nda := List.nodup_append.mp nd
    have ndl := List.nodup_cons.mp nda.1
    refine ⟨l, xs, fw, rfl, by simp, hl, ow, fun a ha => by simp [ha], ndl.2, ndl.1, fun ws' xs' fw' ow' nw hw hlw => ?_⟩
    refine ⟨(l :: fw') ++ f2, ⟨.ref l, r, l :: fw', f2, rfl, rfl, ⟨l, xs', fw', rfl, upd_same, ow'.frame hlw, rfl⟩, h4.frame fun z => nda.2.2 l (.head _) l z rfl⟩, ?_, fun a ha => ?_⟩
    · refine List.nodup_append.mpr ⟨List.nodup_cons.mpr ⟨hlw, nw⟩, nda.2.1, fun a ha b hb e => ?_⟩
      subst e
      rcases List.mem_cons.mp ha with z | z
      · exact nda.2.2 a (z ▸ .head _) a hb rfl
      · rcases hw a z with z' | z'
        · exact nda.2.2 a (.tail _ z') a hb rfl
        · exact z' (List.mem_append_right _ hb)
    · rcases List.mem_append.mp ha with z | z
      · rcases List.mem_cons.mp z with z | z
        · exact .inl (by simp [z])
        · exact .inr z
      · exact .inl (List.mem_append_right _ z)
  | u :: us, _, _, i + 1, ws, ⟨v, r, f1, f2, h1, h2, h3, h4⟩, hi, nd => by
    subst h1 h2
    have nda := List.nodup_append.mp nd
    obtain ⟨l, xs, fw, q1, q2, q3, q4, q5, q6, q7, q8⟩ := OwL.child (i := i) h4 hi nda.2.1
    refine ⟨l, xs, fw, q1, List.mem_append_right _ q2, q3, q4, fun a ha => List.mem_append_right _ (q5 a ha), q6, q7, fun ws' xs' fw' ow' nw hw hlw => ?_⟩
    obtain ⟨fq', c1, c2, c3⟩ := q8 ws' xs' fw' ow' nw (fun a ha => (hw a ha).imp id fun z z' => z (List.mem_append_right _ z')) hlw
    refine ⟨f1 ++ fq', ⟨v, r, f1, fq', rfl, rfl, h3.frame fun z => nda.2.2 l z l q2 rfl, c1⟩, List.nodup_append.mpr ⟨nda.1, c2, fun a ha b hb e => ?_⟩, fun a ha => ?_⟩
    · subst e
      rcases c3 a hb with z | z
      · exact nda.2.2 a ha a z rfl
      · rcases hw a z with z' | z'
        · exact nda.2.2 a ha a (q5 a z') rfl
        · exact z' (List.mem_append_left _ ha)
    · rcases List.mem_append.mp ha with z | z
      · exact .inl (List.mem_append_left _ z)
      · exact (c3 a z).imp (List.mem_append_right _) id
theorem map_range_get {α β : Type} (l : List α) (d : α) (f : α → β) : (List.range l.length).map (fun k => f ((l[k]?).getD d)) = l.map f := by
  refine List.ext_getElem? fun i => ?_
  rw [List.getElem?_map, List.getElem?_map]
  rcases Nat.lt_or_ge i l.length with h | h
  · rw [List.getElem?_range h, List.getElem?_eq_getElem h]
    show some (f ((l[i]?).getD d)) = _
    rw [List.getElem?_eq_getElem h]
    rfl
  · rw [List.getElem?_eq_none (by simpa using h), List.getElem?_eq_none h]
    rfl
theorem ers_fz : ∀ ds : List Dv, ers (ds.map .fz) = ds
  | [] => rfl
  | d :: ds => by show d :: ers (ds.map .fz) = _; rw [ers_fz ds]
theorem er_fzs (ds : List Dv) : er (.ow (ds.map .fz)) = .lst ds := by show Dv.lst _ = _; rw [ers_fz]
theorem Ev.to {t' : Tr} (h : Ev F e ρ t) (q : t = t') : Ev F e ρ t' := q ▸ h
theorem Et.to {p q : Bool} (h : Et F e ρ p) (z : p = q) : Et F e ρ q := z ▸ h
theorem EvS.to {t' : Tr} (h : EvS F e ρ t) (q : t = t') : EvS F e ρ t' := q ▸ h
theorem rn_ifT {A B : List Stmt} {o : Out} {p : Bool} (hc : EtS F c ρ p) (hp : p = true) (h1 : Rns F A ρ o) : Rn F (.If c A B pos) ρ o := rn_if hc (fun _ => h1) fun h => by rw [hp] at h; cases h
theorem rn_ifF {A B : List Stmt} {o : Out} {p : Bool} (hc : EtS F c ρ p) (hp : p = false) (h1 : Rns F B ρ o) : Rn F (.If c A B pos) ρ o := rn_if hc (fun h => by rw [hp] at h; cases h) fun _ => h1
theorem rn_skip {A : List Stmt} {p : Bool} (hc : EtS F c ρ p) (hp : p = false) : Rn F (.If c A [] pos) ρ (.nx ρ) := rn_ifF hc hp rns_nil
def rLaw (dd : List Dv) (t : Tr) : Prop := ∃ ns : List Int, ns.length ≤ 63 ∧ dd = [dis ns] ∧ t = tb true
def spLaw (K : PySem.W.Frag) : Sp := fun vs H Q _ => ∃ (a : Addr) (ns : List Int), vs = [.ref a] ∧ SqL K H a (ns.map V.int) ∧ ns.length ≤ 63 ∧ ∀ H', Q (.bl true) H'
theorem law_ok {P : Program} {w : World} {K : PySem.W.Frag} {mg : Str → Option Value} {base : Heap} {k : Nat} {f : Addr} {fd : FuncData} (F : FnOk P w K mg base CX0 k f fd ["_law_script"] (spT K rLaw)) : FnOk P w K mg base CX0 k f fd ["_law_script"] (spLaw K) :=
  F.imp fun vs H Q E ⟨a, ns, e, h1, h2, h3⟩ => ⟨H, [dis ns], tb true, Same.refl _, ⟨.ref a, [], e, ⟨a, _, rfl, h1, ints_hvl⟩, rfl⟩, ⟨ns, h2, rfl, rfl⟩, fun v G' H' fq st o w => by rw [hvi o.2]; exact h3 H'⟩
end
end L2
namespace Fra
end Fra
namespace Fra
end Fra
namespace L2
open PySem PySem.Spec PyProof.Rows
theorem rng_get {lo : Int} {n j : Nat} {d : Dv} (h : (rngD lo n)[j]? = some d) : j < n ∧ d = di (lo + (j : Int)) := by
  rw [List.getElem?_map] at h
  rcases Nat.lt_or_ge j n with hj | hj
  · rw [List.getElem?_range hj] at h; cases h; exact ⟨hj, rfl⟩
  · rw [List.getElem?_eq_none (by simpa using hj)] at h; cases h
theorem map_get {α β : Type} {f : α → β} {l : List α} {j : Nat} {d : β} (h : (l.map f)[j]? = some d) : ∃ x, l[j]? = some x ∧ d = f x := by
  rw [List.getElem?_map] at h
  cases q : l[j]? with
  | none => rw [q] at h; cases h
  | some x => rw [q] at h; cases h; exact ⟨x, rfl, rfl⟩
theorem take_get {α : Type} {l : List α} {i : Nat} {x : α} (h : l[i]? = some x) : l.take (i + 1) = l.take i ++ [x] := by rw [List.take_succ, h]; rfl
theorem rns_freezeTo {ι : Type} {F : Fam ι} {sts : List Stmt} {ρ : En} {o : Out} {t : Tr} {d : Dv} (j : Nat) (hj : ρ[j]? = some (some t)) (e : er t = d) (h : Rns F sts (ρ.set j (some (.fz d))) o) : Rns F sts ρ o := rns_freeze j hj (e ▸ h)
def cellF (ns : List Int) (k : Int) : Int := ns.getD k.toNat 0
theorem cell_in {ns : List Int} {k : Int} (h0 : 0 ≤ k) (h : k < ns.length) : atI (ns.map di) k = some (di (cellF ns k)) := by
  obtain ⟨j, rfl⟩ : ∃ j : Nat, k = (j : Int) := ⟨k.toNat, by omega⟩
  have hj : j < ns.length := by omega
  refine atI_nat ?_
  unfold cellF
  rw [List.getElem?_map, List.getElem?_eq_getElem hj, List.getD_eq_getElem?_getD, show (j : Int).toNat = j by omega, List.getElem?_eq_getElem hj]
  rfl
theorem cell_out {ns : List Int} {k : Int} (h0 : 0 ≤ k) (h : ns.length ≤ k) : cellF ns k = 0 := by
  unfold cellF
  rw [List.getD_eq_getElem?_getD, List.getElem?_eq_none (by omega)]
  rfl
theorem cutD_map {α β : Type} (f : α → β) (l : List α) (a b : Option Int) : cutD (l.map f) a b = (cutD l a b).map f := by
  unfold cutD
  rw [List.length_map, List.map_take, List.map_drop]
theorem cutD_len {α : Type} (l : List α) (a b : Option Int) : (cutD l a b).length ≤ l.length := by
  unfold cutD
  rw [List.length_take, List.length_drop]
  omega
mutual
def okD : Dv → Bool
  | .fl v => flatV v
  | .lst ds => okDs ds
  | .tup ds => okDs ds
def okDs : List Dv → Bool
  | [] => true
  | d :: ds => okD d && okDs ds
end
mutual
theorem eqD_refl : ∀ {d : Dv}, okD d = true → eqD d d = true
  | .fl v, h => eqV_refl h
  | .lst ds, h => eqDs_refl h
  | .tup ds, h => eqDs_refl h
theorem eqDs_refl : ∀ {ds : List Dv}, okDs ds = true → eqDs ds ds = true
  | [], _ => rfl
  | d :: ds, h => by
    have h' : (okD d && okDs ds) = true := h
    rw [Bool.and_eq_true] at h'
    show (eqD d d && eqDs ds ds) = true
    rw [eqD_refl h'.1, eqDs_refl h'.2]
    rfl
end
theorem okDs_map {α : Type} {f : α → Dv} (h : ∀ a, okD (f a) = true) : ∀ l : List α, okDs (l.map f) = true
  | [] => rfl
  | a :: l => by
    show (okD (f a) && okDs (l.map f)) = true
    rw [h a, okDs_map h l]
    rfl
theorem dpDs_le {n : Nat} : ∀ {ds : List Dv}, (∀ d ∈ ds, dpD d ≤ n) → dpDs ds ≤ n
  | [], _ => Nat.zero_le _
  | d :: ds, h => by
    show max (dpD d) (dpDs ds) ≤ n
    exact Nat.max_le.mpr ⟨h d (.head _), dpDs_le fun x hx => h x (.tail _ hx)⟩
theorem okD_dis (l : List Int) : okD (dis l) = true := okDs_map (fun _ => rfl) l
theorem dpD_dis (l : List Int) : dpD (dis l) ≤ 1 := by
  show dpDs _ + 1 ≤ 1
  have : dpDs (l.map di) ≤ 0 := dpDs_le fun d hd => by
    obtain ⟨_, _, rfl⟩ := List.mem_map.mp hd
    exact Nat.le_refl _
  omega
theorem dpD_lst {n : Nat} {ds : List Dv} (h : ∀ d ∈ ds, dpD d ≤ n) : dpD (.lst ds) ≤ n + 1 := Nat.succ_le_succ (dpDs_le h)
theorem dpD_tup {n : Nat} {ds : List Dv} (h : ∀ d ∈ ds, dpD d ≤ n) : dpD (.tup ds) ≤ n + 1 := Nat.succ_le_succ (dpDs_le h)
theorem okD_lst {α : Type} {f : α → Dv} (h : ∀ a, okD (f a) = true) (l : List α) : okD (.lst (l.map f)) = true := okDs_map h l
end L2
namespace L2
open PySem PySem.Spec PyProof.Rows
theorem OwL.setAt {K : PySem.W.Frag} {G H : Hp} : ∀ {us : List Tr} {vs : List V} {fq : List Addr} {m : Nat} {t : Tr} {v : V} {f : List Addr}, OwL K G H us vs fq → m < us.length → Ow K G H t v f → fq.Nodup → f.Nodup → (∀ a ∈ f, a ∉ fq) →
    ∃ fw, OwL K G H (us.set m t) (vs.set m v) fw ∧ fw.Nodup ∧ ∀ a ∈ fw, a ∈ fq ∨ a ∈ f
  | u :: us, _, _, 0, t, v, f, ⟨w, r, f1, f2, h1, h2, h3, h4⟩, _, o, nd, nf, dj => by
    subst h1 h2
    have nda := List.nodup_append.mp nd
    refine ⟨f ++ f2, ⟨v, r, f, f2, rfl, rfl, o, h4⟩, List.nodup_append.mpr ⟨nf, nda.2.1, fun a ha b hb e => dj a ha (e ▸ List.mem_append_right _ hb)⟩, fun a ha => ?_⟩
    rcases List.mem_append.mp ha with z | z
    · exact .inr z
    · exact .inl (List.mem_append_right _ z)
  | u :: us, _, _, m + 1, t, v, f, ⟨w, r, f1, f2, h1, h2, h3, h4⟩, hm, o, nd, nf, dj => by
    subst h1 h2
    have nda := List.nodup_append.mp nd
    obtain ⟨fw, q1, q2, q3⟩ := OwL.setAt (m := m) h4 (Nat.lt_of_succ_lt_succ hm) o nda.2.1 nf fun a ha z => dj a ha (List.mem_append_right _ z)
    refine ⟨f1 ++ fw, ⟨w, _, f1, fw, rfl, rfl, h3, q1⟩, List.nodup_append.mpr ⟨nda.1, q2, fun a ha b hb e => ?_⟩, fun a ha => ?_⟩
    · subst e
      rcases q3 a hb with z | z
      · exact nda.2.2 a ha a z rfl
      · exact dj a z (List.mem_append_left _ ha)
    · rcases List.mem_append.mp ha with z | z
      · exact .inl (List.mem_append_left _ z)
      · exact (q3 a z).imp (List.mem_append_right _) id
theorem rn_ixset {ι : Type} {F : Fam ι} {e : Expr} {ρ : En} {t : Tr} {pos : Pos} (j : Nat) {x : Str} {us : List Tr} {n : Int} {m : Nat} {nE : Expr} {p1 p2 : Pos} (h : ρ[j]? = some (some (.ow us))) (hn : EvS F nE ρ (ti n)) (hm : ixN us.length n = some m) (he : EvS F e ρ t) (hN : ∀ i, (F.cx i).N[j]? = some x := by intro _; rfl)
    (hv : ∀ i, Vis (F.cx i).env.scope x := by intro _; first | exact Or.inl rfl | exact Or.inr (Or.inl rfl) | exact Or.inr (Or.inr rfl)) (hd : (x == ("__debug__" : Str)) = false := by decide) (hc : (x == ("__classdict__" : Str)) = false := by decide)
    (hs : ∀ i, swapsWithSole [.Subscript (.Name x p1) nE p2] e pos.line (F.cx i).env = pure false := by intro _; rfl) (hw : ∀ i, swappedStores [.Subscript (.Name x p1) nE p2] e (F.cx i).env = pure none := by intro _; rfl)
    (h1 : ∀ i, (assignEach [.Subscript (.Name x p1) nE p2] (F.cx i).env).map (·.2) = [assign (.Subscript (.Name x p1) nE p2) (F.cx i).env] := by intro _; rfl)
    (hps : ∀ i, PG (F.cx i) (.Subscript (.Name x p1) nE p2) (gSub (tVar j) (uE F nE) rSetL)) :
    Rn F (.Assign [.Subscript (.Name x p1) nE p2] e pos) ρ (.nx (ρ.set j (some (.ow (us.set m t))))) := by
  obtain ⟨τ, y, z⟩ := he
  obtain ⟨τn, yn, zn⟩ := hn
  refine ⟨tAsg τ (gSub (tVar j) (uE F nE) rSetL), fun i => ps_asg (y i) (hps i) (hs i) (hw i) (h1 i), fun D σ G0 H0 G H r k => ?_⟩
  obtain ⟨fp, r⟩ := r
  refine z σ G H fp _ r.st.s r.own r.g fun v1 G1 H1 f1 s1 o1 w1 => ?_
  have r1 : RSf F.K G0 H0 G1 H1 ρ σ fp := ⟨r.st.trans s1, r.own.mono s1.g s1.h, r.own.off s1 r.g, r.n, r.d⟩
  obtain ⟨l0, vs0, fq0, c1, c2, _⟩ := r1.mut h (.refl r1.st.s)
  refine ⟨_, c1, τn, yn, zn σ G1 H1 fp _ r1.st.s r1.own r1.g fun vn G2 H2 f2 s2 o2 w2 => ?_⟩
  obtain ⟨l, vs, fq, d1, d2, d3, d4, d5, d6, d7⟩ := r.mut h (s1.trans s2)
  rw [c1] at d1
  cases d1
  have hm' : m < us.length := (ixN_seq hm).2.1
  have nf : ∀ a ∈ f1, a ∉ fq := fun a ha hb => by
    obtain ⟨u, hu⟩ := r.own.there a (d6 a hb)
    rw [w1.n a ha] at hu; cases hu
  obtain ⟨fw, q1, q2, q3⟩ := d4.setAt hm' (o1.mono s2.g s2.h) d5 w1.d nf
  refine ⟨l0, vs, n, m, rfl, hvi o2.2, d3, by rw [← d4.length]; exact hm, k σ G2 _ (d7 (us.set m t) (vs.set m v1) fw q1 q2 fun a ha => (q3 a ha).imp id fun z => ⟨w1.n a z, ?_⟩)⟩
  cases q : G2 a with
  | none => rfl
  | some u =>
    obtain ⟨u', hu'⟩ := o1.there a z
    have := s2.n a (w1.g a z) (by rw [q]; exact fun z => nomatch z)
    rw [hu'] at this; cases this
end L2
namespace L2
open PySem PySem.Spec PyProof.Rows
def tRange (ta : TA) : TE := fun σ H Q => ta σ H fun vs H1 => ∃ j : Int, vs = [.int j] ∧ ∀ p, H1 p = none → Q (.ref p) (upd H1 p (.rng 0 j))
section
variable {X : Cx}
theorem pe_range1 {a : Expr} {ta : TA} {p pos : Pos} (hg : Gl X "range") (hm : X.mg "range" = none) (ha : PA X [a] ta) (hs : starEach [a] X.env = [(false, eval a X.env)] := by rfl) : PE X (.Call (.Name "range" p) [a] [] pos) (tRange ta) := by
  intro pins s σ H Q I h
  refine Call_ (ld_blt I hg hm boot_range (PyProof.Rows.callWith_type1 (thn (ha pos pins s σ H _ I h) fun us s1 ⟨vs, H1, I1, r1, q1⟩ => ?_) hs rfl))
  obtain ⟨j, e, q⟩ := q1
  subst e
  cases r1 with
  | cons r rr =>
    cases rr
    obtain ⟨t, rfl⟩ := r
    refine call_range_1 ⟨.ref _, _, I1.laid (t' := s1.toks + 1 + 1) (o := .rng 0 j) (fun b ob q => Heap.get?_push_of_some _ q) (Nat.le_refl _) ?_, rfl, q _ (I1.hok.fresh (Nat.le_refl _))⟩
    exact ⟨_, _, _, Heap.get?_push_size _ rfl⟩
theorem call_list_rng (hc : X.calm = true) : CallR X (.type "list") (fun xs H Q => ∃ p n, xs = [.ref p] ∧ H p = some (.rng 0 n) ∧ 0 ≤ n ∧ n < 2 ^ 20 ∧ ∀ l, H l = none → Q (.ref l) (upd H l (.lst ((List.range n.toNat).map fun i => .int (0 + ((i : Nat) : Int)))))) := by
  intro pins s σ H xs us Q I r h
  obtain ⟨p, n, rfl, hH, h0, h1, q⟩ := h
  obtain ⟨u, rfl, rx⟩ := vals1 r
  cases rx
  obtain ⟨t, u, v, e⟩ := (show ObjOk X.prog X.w H s.heap p (.rng 0 n) from I.hok p _ hH)
  have hsize : Builtin.Range.rangeSize 0 n 1 = (n.toNat : Nat) := by rw [rangeSize_pos (by decide) h0]; omega
  refine call_list_range (n := n.toNat) (I.ok.hd hc) e (step_small h0 (by omega) (by decide) (by decide)) hsize (by omega) fun h' tk acc' c' kp e' it => ?_
  refine ⟨.ref s.heap.objs.size, _, I.laid (t' := tk) (o := .lst ((List.range n.toNat).map fun i => .int (0 + ((i : Nat) : Int)))) kp (Nat.le_refl _) ?_, rfl, q _ (I.hok.fresh (Nat.le_refl _))⟩
  have hs : sizeLine = 16777216 := sizeLine_eq
  refine ⟨by rw [List.length_map, List.length_range]; omega, acc'.toList, c', ?_, by rw [Array.toArray_toList]; exact e'⟩
  obtain ⟨i1, i2⟩ := it
  have gen : ∀ (l : List Value) (k : Nat), (∀ j v, l[j]? = some v → ∃ t, v = Value.int (0 + ((k + j : Nat) : Int)) t) → Vals ((List.range l.length).map fun i => V.int (0 + ((k + i : Nat) : Int))) l := by
    intro l
    induction l with
    | nil => intro k _; exact .nil
    | cons a l ih =>
      intro k hk
      rw [List.length_cons, List.range_succ_eq_map, List.map_cons, List.map_map]
      obtain ⟨t, ht⟩ := hk 0 a rfl
      refine .cons ⟨t, by rw [ht]⟩ ?_
      have := ih (k + 1) (fun j v hj => by
        obtain ⟨t, ht⟩ := hk (j + 1) v hj
        exact ⟨t, by rw [ht, show k + (j + 1) = k + 1 + j by omega]⟩)
      refine (List.map_congr_left fun i _ => ?_) ▸ this
      show V.int (0 + ((k + 1 + i : Nat) : Int)) = V.int (0 + ((k + (i + 1) : Nat) : Int))
      rw [show k + 1 + i = k + (i + 1) by omega]
  have g0 := gen acc'.toList 0 fun j v hj => by
    obtain ⟨t, ht⟩ := i2 j v (by rw [← Array.getElem?_toList]; exact hj)
    refine ⟨t, ?_⟩
    rw [ht, Int.mul_one, Nat.zero_add]
  rw [Array.length_toList, i1] at g0
  have e0 : ((List.range n.toNat).map fun i => V.int (0 + ((0 + i : Nat) : Int))) = (List.range n.toNat).map fun i => V.int (0 + ((i : Nat) : Int)) := List.map_congr_left fun i _ => by rw [Nat.zero_add]
  rw [e0] at g0
  exact g0
def rAny (K : PySem.W.Frag) : List V → Hp → VK → Prop := fun xs H Q => ∃ (p : Addr) (bs : List Bool), xs = [.ref p] ∧ SqL K H p (bs.map V.bl) ∧ Q (.bl (bs.any id)) H
theorem range_any (bs : List Bool) : ((List.range bs.length).any fun i => (bs[i]?).getD false) = bs.any id := by
  have := congrArg (fun l : List Bool => l.any id) (map_range_get bs false id)
  simp only [List.any_map, List.map_id] at this
  exact this
theorem call_any (hc : X.calm = true) : CallR X (.builtin "any") (rAny X.K) := by
  intro pins s σ H xs us Q I r h
  obtain ⟨p, bs, rfl, hq, q⟩ := h
  cases r with
  | cons r1 rr =>
    cases rr
    cases r1
    obtain ⟨its, rv, pl, hz⟩ := I.list hq
    have hb := boolsAre rv
    have hl : s.heap.IsList p its.toArray := pl.isList
    have hlt : p < s.heap.objs.size := by obtain ⟨_, e, _⟩ := hl; exact Heap.lt_size e
    refine call_any_walk (wpAny_pyIter_list hl ?_)
    refine ⟨s.heap.objs.size, [s.heap.objs.size, p], [s.heap.objs.size], its.toArray.size, _, _, fun i => (bs[i]?).getD false, rfl, Walks.list (A := X.A.in1) (I.ok.hd hc) _ p (Nat.ne_of_lt hlt) its.toArray,
      ⟨⟨_, Heap.get?_push_size _ rfl, rfl, rfl⟩, hl.push _⟩, fun i v s' Q' E' hP hQ => ?_, fun h' tk hk => ?_⟩
    · obtain ⟨b, e, rfl⟩ := hb.get i v (by simpa using hP)
      simp only [e, Option.getD_some] at hQ
      exact wpAny_truthy_bool hQ
    · have e : ((List.range its.toArray.size).any fun i => (bs[i]?).getD false) = bs.any id := by
        rw [List.size_toArray, hb.length]; exact range_any bs
      rw [e]
      exact ⟨.bl _, H, I.kept (t' := tk) (LSm.kept_iter hk), rfl, q⟩
def unlike (ns : List Int) : Nat := (firstMet (fun i => ns.getD i 0) ns.length).length
theorem call_set_ints (hc : X.calm = true) : CallR X (.type "set") (fun xs H Q => ∃ (p : Addr) (ns : List Int), xs = [.ref p] ∧ SqL X.K H p (ns.map V.int) ∧ ns.length < 1000 ∧ ∀ l S, H l = none → Q (.ref l) (upd H l (.set S (unlike ns)))) := by
  intro pins s σ H xs us Q I r h
  obtain ⟨p, ns, rfl, hq, hz, q⟩ := h
  obtain ⟨u, rfl, rx⟩ := vals1 r
  cases rx
  obtain ⟨its, rv, pl, _⟩ := I.list hq
  have hi := intsAre_of rv
  have hl := rv.length
  rw [List.length_map] at hl
  refine call_set_list (ns := ns) (I.ok.hd hc) pl.isList (by simpa using hi) (by rw [List.size_toArray, ← hl]; exact Nat.lt_of_lt_of_le (Nat.succ_lt_succ hz) (by decide)) fun h' tk hs kp => ?_
  have hsz : its.toArray.size = ns.length := by rw [List.size_toArray, ← hl]
  rw [hsz] at hs
  exact ⟨.ref s.heap.objs.size, _, I.laid (t' := tk) (o := .set _ (unlike ns)) (fun b o e => kp b o (Heap.lt_size e) e) (Nat.le_refl _) hs, rfl, q _ _ (I.hok.fresh (Nat.le_refl _))⟩
theorem call_len_setI : CallR X (.builtin "len") (fun xs H Q => ∃ p S n, xs = [.ref p] ∧ H p = some (.set S n) ∧ Q (.int n) H) := by
  intro pins s σ H xs us Q I r h
  obtain ⟨p, S, n, rfl, hH, q⟩ := h
  obtain ⟨u, rfl, rx⟩ := vals1 r
  cases rx
  obtain ⟨o, es, ep, t, h1, h2, h3, _, _, h4, h5, h6⟩ := (show ObjOk X.prog X.w H s.heap p (.set S n) from I.hok p _ hH)
  subst h6
  refine call_len_set h1 h2 h3 h5 (by have : es.size < 4096 := h4; omega) ⟨.int _, H, I.tok _, ⟨_, rfl⟩, q⟩
theorem unlike_nodup {ns : List Int} (h : ns.Nodup) : unlike ns = ns.length := by
  have gen : ∀ i, i ≤ ns.length → firstMet (fun i => ns.getD i 0) i = ns.take i := by
    intro i
    induction i with
    | zero => intro _; rw [firstMet_zero]; simp
    | succ i ih =>
      intro hi
      rw [firstMet_succ, ih (by omega)]
      have hx : ns[i]? = some (ns[i]'(by omega)) := List.getElem?_eq_getElem _
      rw [take_get hx]
      have e : ns.getD i 0 = ns[i]'(by omega) := by rw [List.getD_eq_getElem?_getD, hx]; rfl
      show step_dedup (ns.take i) (ns.getD i 0) = _
      rw [e]
      unfold step_dedup
      have : ((ns.take i).any (· == ns[i]'(by omega))) = false := by
        rw [Bool.eq_false_iff]
        intro z
        obtain ⟨y, hy, hyy⟩ := List.any_eq_true.mp z
        have hy' : y = ns[i]'(by omega) := by simpa using hyy
        subst hy'
        obtain ⟨j, hj, hje⟩ := List.mem_iff_getElem.mp hy
        rw [List.getElem_take] at hje
        rw [List.length_take] at hj
        have := (List.getElem_inj (xs := ns) h).mp hje
        omega
      rw [this]
      rfl
  unfold unlike
  rw [gen ns.length (Nat.le_refl _), List.take_length]
end
section
variable {ι : Type} {F : Fam ι} {e a b c : Expr} {es : List Expr} {ρ : En} {t ta tb' : Tr} {ts : List Tr} {pos : Pos}
theorem ints_tr (l : List Int) : (l.map di).map Tr.fz = l.map fun n => Tr.fz (di n) := by rw [List.map_map]; rfl
theorem ev_listrange {n : Int} (hm : F.mg "list" = none) (hm2 : F.mg "range" = none) (ha : Ev F a ρ (ti n)) (h0 : 0 ≤ n) (h1 : n < 2 ^ 20) {p1 p2 pos1 : Pos} (hg : ∀ i, Gl (F.cx i) "list" := by intro _; rfl) (hg2 : ∀ i, Gl (F.cx i) "range" := by intro _; rfl)
    (hs : ∀ i, starEach [a] (F.cx i).env = [(false, eval a (F.cx i).env)] := by intro _; rfl) (hs2 : ∀ i, starEach [.Call (.Name "range" p2) [a] [] pos1] (F.cx i).env = [(false, eval (.Call (.Name "range" p2) [a] [] pos1) (F.cx i).env)] := by intro _; rfl) :
    Ev F (.Call (.Name "list" p1) [.Call (.Name "range" p2) [a] [] pos1] [] pos) ρ (.ow (((List.range n.toNat).map fun i => (0 + ((i : Nat) : Int))).map fun n => .fz (di n))) := by
  obtain ⟨τ, p, q⟩ := ha.use
  refine ⟨_, fun i => pe_callTy (call_list_rng (F.calm i)) (hg i) ((F.hm i).symm ▸ hm) bt_list (pa_cons (pe_range1 (hg2 i) ((F.hm i).symm ▸ hm2) (pa_cons (p i) pa_nil (hs i)) (hs i)) pa_nil (hs2 i)) (by decide) (by decide) (hs2 i) rfl, fun σ G H Q s rr k => q σ G H _ s rr fun x G1 H1 s1 hx => ?_⟩
  refine ⟨n, by rw [hvi hx], fun p0 hp0 => ⟨p0, n, rfl, upd_same, h0, h1, fun l hl => ?_⟩⟩
  have k2 := k.step (s1.trans (Step.newO (o := .rng 0 n) s1.s hp0))
  have e : ((List.range n.toNat).map fun i => V.int (0 + ((i : Nat) : Int))) = ((List.range n.toNat).map fun i => (0 + ((i : Nat) : Int))).map V.int := by rw [List.map_map]; rfl
  rw [e]
  refine k2.lst (s1.s.trans (Same.new hp0)) ?_ hl
  rw [← ints_tr]
  exact ints_hvl.owl
theorem ev_any {bs : List Bool} (hm : F.mg "any" = none) (ha : Ev F e ρ ta) (ea : er ta = .lst (bs.map db)) {p' : Pos} (hg : ∀ i, Gl (F.cx i) "any" := by intro _; rfl)
    (hs : ∀ i, starEach [e] (F.cx i).env = [(false, eval e (F.cx i).env)] := by intro _; rfl) : Ev F (.Call (.Name "any" p') [e] [] pos) ρ (tb (bs.any id)) :=
  ev_callB (r := rAny F.K) (fun i => F.hK i ▸ call_any (F.calm i)) hm bt_any (eva_cons ha eva_nil hs) (fun G H vs Q s hx k => by
    obtain ⟨x, rfl, hxx⟩ := hvl1 hx
    rw [ea] at hxx
    obtain ⟨l, ys, rfl, h1, h2⟩ := hxx
    have := hvl_bools h2
    subst this
    exact ⟨l, bs, rfl, s.seq h1, k.sc s rfl⟩) hg (by decide) (by decide) hs (fun _ => rfl)
theorem bt_set : bootBuiltins "set" = some (.type "set") := by decide +kernel
theorem ev_lenset {ns : List Int} (hm : F.mg "len" = none) (hm2 : F.mg "set" = none) (ha : Ev F a ρ ta) (ea : er ta = dis ns) (hz : ns.length < 1000) {p1 p2 pos1 : Pos} (hg : ∀ i, Gl (F.cx i) "len" := by intro _; rfl) (hg2 : ∀ i, Gl (F.cx i) "set" := by intro _; rfl)
    (hs : ∀ i, starEach [a] (F.cx i).env = [(false, eval a (F.cx i).env)] := by intro _; rfl) (hs2 : ∀ i, starEach [.Call (.Name "set" p2) [a] [] pos1] (F.cx i).env = [(false, eval (.Call (.Name "set" p2) [a] [] pos1) (F.cx i).env)] := by intro _; rfl) :
    Ev F (.Call (.Name "len" p1) [.Call (.Name "set" p2) [a] [] pos1] [] pos) ρ (ti (unlike ns : Nat)) := by
  obtain ⟨τ, p, q⟩ := ha.use
  refine ⟨tCB _ (tCons (tCB (fun xs H Q => ∃ (p : Addr) (ns : List Int), xs = [.ref p] ∧ SqL F.K H p (ns.map V.int) ∧ ns.length < 1000 ∧ ∀ l S, H l = none → Q (.ref l) (upd H l (.set S (unlike ns)))) (tCons τ tNil)) tNil), fun i => pe_callB call_len_setI (hg i) ((F.hm i).symm ▸ hm) bt_len (pa_cons (pe_callTy (F.hK i ▸ call_set_ints (F.calm i)) (hg2 i) ((F.hm i).symm ▸ hm2) bt_set (pa_cons (p i) pa_nil (hs i)) (by decide) (by decide) (hs i) rfl) pa_nil (hs2 i)) (by decide) (by decide) (hs2 i) rfl, fun σ G H Q s rr k => q σ G H _ s rr fun x G1 H1 s1 hx => ?_⟩
  rw [ea] at hx
  obtain ⟨l, ys, rfl, h1, h2⟩ := hx
  have := hvl_ints h2
  subst this
  refine ⟨l, ns, rfl, s1.s.seq h1, hz, fun l0 S hl0 => ⟨l0, S, _, rfl, upd_same, ?_⟩⟩
  exact (k.step (s1.trans (Step.newO (o := .set S (unlike ns)) s1.s hl0))).sc (s1.s.trans (Same.new hl0)) rfl
theorem OwL.erase {K : PySem.W.Frag} {G H : Hp} : ∀ {us : List Tr} {vs : List V} {fq : List Addr} {m : Nat} {u : Tr}, OwL K G H us vs fq → us[m]? = some u → fq.Nodup → ∃ v f fw, vs[m]? = some v ∧ Ow K G H u v f ∧ OwL K G H (us.eraseIdx m) (vs.eraseIdx m) fw ∧ fw.Nodup ∧ f.Nodup ∧ (∀ a ∈ fw, a ∈ fq) ∧ (∀ a ∈ f, a ∈ fq) ∧ ∀ a ∈ f, a ∉ fw
  | t :: us, _, _, 0, u, ⟨v, r, f1, f2, h1, h2, h3, h4⟩, hu, nd => by
    cases hu
    subst h1 h2
    have nda := List.nodup_append.mp nd
    exact ⟨v, f1, f2, rfl, h3, h4, nda.2.1, nda.1, fun a ha => List.mem_append_right _ ha, fun a ha => List.mem_append_left _ ha, fun a ha hb => nda.2.2 a ha a hb rfl⟩
  | t :: us, _, _, m + 1, u, ⟨v, r, f1, f2, h1, h2, h3, h4⟩, hu, nd => by
    subst h1 h2
    have nda := List.nodup_append.mp nd
    obtain ⟨v', f, fw, q1, q2, q3, q4, q5, q6, q7, q8⟩ := OwL.erase (m := m) h4 hu nda.2.1
    refine ⟨v', f, f1 ++ fw, q1, q2, ⟨v, _, f1, fw, rfl, rfl, h3, q3⟩, List.nodup_append.mpr ⟨nda.1, q4, fun a ha b hb e => nda.2.2 a ha b (q6 b hb) e⟩, q5, fun a ha => ?_, fun a ha => List.mem_append_right _ (q7 a ha), fun a ha hb => ?_⟩
    · rcases List.mem_append.mp ha with z | z
      · exact List.mem_append_left _ z
      · exact List.mem_append_right _ (q6 a z)
    · rcases List.mem_append.mp hb with z | z
      · exact nda.2.2 a z a (q7 a ha) rfl
      · exact q8 a ha z
theorem rn_append_pop (j j2 : Nat) {x y : Str} {us ws : List Tr} {d : Dv} {n : Int} {m : Nat} {nE : Expr} {p1 p2 p3 p4 p5 p6 : Pos} (hjj : j ≠ j2) (h : ρ[j]? = some (some (.ow us))) (h2 : ρ[j2]? = some (some (.ow ws))) (hn : EvS F nE ρ (ti n)) (hm : ixN ws.length n = some m) (hb : -(2 ^ 62) ≤ n ∧ n < 2 ^ 62) (hu : ws[m]? = some (.fz d)) (hz : us.length < sizeLine)
    (hN : ∀ i, (F.cx i).N[j]? = some x := by intro _; rfl) (hN2 : ∀ i, (F.cx i).N[j2]? = some y := by intro _; rfl)
    (hv : ∀ i, Vis (F.cx i).env.scope x := by intro _; first | exact Or.inl rfl | exact Or.inr (Or.inl rfl) | exact Or.inr (Or.inr rfl)) (hv2 : ∀ i, Vis (F.cx i).env.scope y := by intro _; first | exact Or.inl rfl | exact Or.inr (Or.inl rfl) | exact Or.inr (Or.inr rfl))
    (hd : (x == ("__debug__" : Str)) = false := by decide) (hc : (x == ("__classdict__" : Str)) = false := by decide) (hd2 : (y == ("__debug__" : Str)) = false := by decide) (hc2 : (y == ("__classdict__" : Str)) = false := by decide)
    (hbase : ∀ i, attributeBase (.Name x p1) "append" (F.cx i).env (eval (.Name x p1) (F.cx i).env) = eval (.Name x p1) (F.cx i).env := by intro _; rfl) (hbase2 : ∀ i, attributeBase (.Name y p4) "pop" (F.cx i).env (eval (.Name y p4) (F.cx i).env) = eval (.Name y p4) (F.cx i).env := by intro _; rfl)
    (hfew : ∀ i, ((backTo p3 (starEach [.Call (.Attribute (.Name y p4) "pop" p5) [nE] [] p6] (F.cx i).env)).all (fun x => !x.1) && (backToKw p3 (keywordEach [] (F.cx i).env)).all (fun x => x.1.isSome) && decide (([.Call (.Attribute (.Name y p4) "pop" p5) [nE] [] p6] : List Expr).length + ([] : List Keyword).length + (if ([] : List Keyword).isEmpty then 0 else 1) < 30)) = true := by intro _; rfl)
    (hfew2 : ∀ i, ((backTo p6 (starEach [nE] (F.cx i).env)).all (fun x => !x.1) && (backToKw p6 (keywordEach [] (F.cx i).env)).all (fun x => x.1.isSome) && decide (([nE] : List Expr).length + ([] : List Keyword).length + (if ([] : List Keyword).isEmpty then 0 else 1) < 30)) = true := by intro _; rfl)
    (hline : (p2.endLine == p3.line) = true := by rfl) (hline2 : (p5.endLine == p6.line) = true := by rfl) (hs : ∀ i, starEach [.Call (.Attribute (.Name y p4) "pop" p5) [nE] [] p6] (F.cx i).env = [(false, eval (.Call (.Attribute (.Name y p4) "pop" p5) [nE] [] p6) (F.cx i).env)] := by intro _; rfl) (hs2 : ∀ i, starEach [nE] (F.cx i).env = [(false, eval nE (F.cx i).env)] := by intro _; rfl)
    (hsw : ∀ i, swapsWith (.Call (.Attribute (.Name x p1) "append" p2) [.Call (.Attribute (.Name y p4) "pop" p5) [nE] [] p6] [] p3) none pos.line (F.cx i).env = pure false := by intro _; rfl) :
    Rn F (.Expr (.Call (.Attribute (.Name x p1) "append" p2) [.Call (.Attribute (.Name y p4) "pop" p5) [nE] [] p6] [] p3) pos) ρ (.nx ((ρ.set j2 (some (.ow (ws.eraseIdx m)))).set j (some (.ow (us ++ [.fz d]))))) := by
  obtain ⟨τn, yn, zn⟩ := hn
  refine ⟨tDrop (tBM F.K "list" rAppend (tVar j) (tCons (tBM F.K "list" rPopAt (tVar j2) (tCons τn tNil)) tNil)), fun i => ps_expr (F.hK i ▸ pe_bm PySem.F.plainAttrs_list PySem.F.slot_list_append PySem.F.type_list_append mt_append (pe_var (hN i) (hv i) hd hc) (pa_cons (pe_bm PySem.F.plainAttrs_list PySem.F.slot_list_pop PySem.F.type_list_pop mt_popAt (pe_var (hN2 i) (hv2 i) hd2 hc2) (pa_cons (yn i) pa_nil (hs2 i)) (hbase2 i) (hfew2 i) hline2 (hs2 i) rfl) pa_nil (hs i)) (hbase i) (hfew i) hline (hs i) rfl) (hsw i), fun D σ G0 H0 G H r k => ?_⟩
  obtain ⟨fp, r⟩ := r
  obtain ⟨l0, vs0, fq0, c1, c2, _⟩ := r.mut h (.refl r.st.s)
  obtain ⟨l2, vs2, fq2, e1, e2, _⟩ := r.mut h2 (.refl r.st.s)
  refine ⟨_, c1, .inl ⟨rfl, _, SqL.of c2⟩, _, e1, .inl ⟨rfl, _, SqL.of e2⟩, ?_⟩
  refine zn σ G H fp _ r.st.s r.own r.g fun vn G1 H1 f1 s1 o1 w1 => ?_
  obtain ⟨l, vs, fq, d1, d2, d3, d4, d5, d6, d7⟩ := r.mut h2 s1
  rw [e1] at d1
  cases d1
  obtain ⟨v, f, fw, g1, g2, g3, g4, g5, g6, g7, g8⟩ := d4.erase hu d5
  obtain ⟨rfl, hv'⟩ := g2
  obtain ⟨ix1, ix2, ix3, ix4⟩ := ixN_seq hm
  refine ⟨l2, vs, n, m, v, rfl, by rw [hvi o1.2], d3, by omega, by omega, by rw [← d4.length]; exact ix1, g1, ?_⟩
  have r2 := d7 (ws.eraseIdx m) (vs.eraseIdx m) fw g3 g4 fun a ha => .inl (g6 a ha)
  obtain ⟨fp2, r2⟩ := r2
  have hj' : (ρ.set j2 (some (.ow (ws.eraseIdx m))))[j]? = some (some (.ow us)) := by rw [List.getElem?_set_ne (Ne.symm hjj)]; exact h
  obtain ⟨l3, vs3, fq3, b1, b2, b3, b4, b5, b6, b7⟩ := r2.mut hj' (.refl r2.st.s)
  rw [c1] at b1
  cases b1
  refine ⟨l0, vs3, v, rfl, rfl, b2, by rw [← b4.length]; exact hz, k σ G1 _ ?_⟩
  exact b7 (us ++ [.fz d]) (vs3 ++ [v]) (fq3 ++ ([] ++ [])) (b4.append (us := [.fz d]) ⟨v, [], [], [], rfl, rfl, ⟨rfl, hv'⟩, rfl, rfl⟩) (by simpa using b5) fun a ha => .inl (by simpa using ha)
end
end L2
namespace L2
open PySem PySem.Spec PyProof.Rows
theorem enu_get {xs : List Dv} {k : Nat} {d : Dv} (h : (enuD xs)[k]? = some d) : ∃ x, xs[k]? = some x ∧ d = .tup [di (k : Nat), x] := by
  unfold enuD at h
  rw [List.getElem?_zipWith] at h
  cases hx : xs[k]? with
  | none =>
    rw [hx] at h
    cases q2 : (List.range xs.length)[k]? with
    | none => rw [q2] at h; cases h
    | some z => rw [q2] at h; cases h
  | some x =>
    have lj : k < xs.length := (List.getElem?_eq_some_iff.mp hx).1
    rw [hx, List.getElem?_range lj] at h
    cases h
    exact ⟨x, rfl, rfl⟩
theorem er_map {α : Type} (l : List α) (f : α → Int) : er (.ow (l.map fun k => Tr.fz (di (f k)))) = dis (l.map f) := by
  show Dv.lst _ = Dv.lst _
  rw [ers_map, List.map_map, List.map_map]; rfl
abbrev tInts (l : List Int) : Tr := .ow (l.map fun n => .fz (di n))
abbrev tRows (L : List (List Int)) : Tr := .ow (L.map tInts)
theorem er_tInts (l : List Int) : er (tInts l) = dis l := by
  show Dv.lst _ = _
  rw [ers_map, List.map_map]; rfl
theorem er_tRows (L : List (List Int)) : er (tRows L) = .lst (L.map dis) := by
  show Dv.lst _ = _
  rw [ers_map, List.map_map]
  congr 1
  exact List.map_congr_left fun l _ => er_tInts l
theorem cl_tRows : ∀ L : List (List Int), Cls' (L.map tInts)
  | [] => True.intro
  | l :: L => ⟨cl_ints l, cl_tRows L⟩
theorem okD_rows (L : List (List Int)) : okD (.lst (L.map dis)) = true := okD_lst okD_dis L
theorem dpD_rows (L : List (List Int)) : dpD (.lst (L.map dis)) ≤ 2 := dpD_lst fun d hd => by
  obtain ⟨m, _, rfl⟩ := List.mem_map.mp hd
  exact dpD_dis m
def tabD (c : List Int) (os : List (List Int)) : Dv := .tup [dis c, .lst (os.map dis)]
theorem okD_tab (c : List Int) (os : List (List Int)) : okD (tabD c os) = true := by
  show (okD (dis c) && (okD (.lst (os.map dis)) && true)) = true
  rw [okD_dis, okD_rows]; rfl
structure TabOk (c : List Int) (os : List (List Int)) : Prop where
  c6 : c.length ≤ 6
  cnt : ∀ x ∈ c, 0 ≤ x ∧ x ≤ 9
  o1 : 1 ≤ os.length
  o6 : os.length ≤ 6
  nd : ∀ o ∈ os, o.Nodup
  rng : ∀ o ∈ os, ∀ x ∈ o, 0 ≤ x ∧ x < c.length
theorem nodup_len {n : Nat} {l : List Int} (nd : l.Nodup) (h : ∀ x ∈ l, 0 ≤ x ∧ x < n) : l.length ≤ n := by
  have sub : l ⊆ (List.range n).map fun k => ((k : Nat) : Int) := fun x hx => by
    obtain ⟨h0, h1⟩ := h x hx
    exact List.mem_map.mpr ⟨x.toNat, List.mem_range.mpr (by omega), by omega⟩
  have := nd.length_le_of_subset sub
  simpa using this
end L2
namespace L2
open PySem PySem.Spec PyProof.Rows
theorem EvI.to {ι : Type} {F : Fam ι} {tg iter : Expr} {ρ : En} {a b : List Dv} (h : EvI F tg iter ρ a) (e : a = b) : EvI F tg iter ρ b := e ▸ h
theorem erase_perm {α : Type} : ∀ {l : List α} {m : Nat} (h : m < l.length), (l[m] :: l.eraseIdx m).Perm l
  | x :: l, 0, _ => .refl _
  | x :: l, m + 1, h => by
    have h' : m < l.length := by simpa using h
    show (l[m] :: x :: l.eraseIdx m).Perm (x :: l)
    exact (List.Perm.swap ..).trans ((erase_perm h').cons x)
theorem erase_map {α β : Type} (f : α → β) : ∀ (l : List α) (m : Nat), (l.map f).eraseIdx m = (l.eraseIdx m).map f
  | [], _ => rfl
  | _ :: _, 0 => rfl
  | x :: l, m + 1 => by
    show f x :: (l.map f).eraseIdx m = f x :: (l.eraseIdx m).map f
    rw [erase_map f l m]
end L2
namespace L2
open PySem PySem.Spec PyProof.Rows
end L2
namespace L2
open PySem PySem.Spec PyProof.Rows
section
variable {prog : Program} {w : World} {A : Around} {E : Value → Shared → Prop} {s : Shared}
end
section
variable {X : Cx}
end
section
variable {ι : Type} {F : Fam ι} {e a b c : Expr} {es : List Expr} {ρ : En} {t ta tb' : Tr} {ts : List Tr} {pos : Pos}
theorem filt_get {α β : Type} (q : α → Bool) (h : α → β) (d : β) : ∀ l : List α, ((List.range l.length).filter fun k => ((l[k]?).map q).getD false).map (fun k => ((l[k]?).map h).getD d) = (l.filter q).map h
  | [] => rfl
  | a :: l => by
    have ih := filt_get q h d l
    rw [List.length_cons, List.range_succ_eq_map, List.filter_cons, List.filter_cons, List.filter_map]
    show List.map _ (if q a = true then _ else _) = _
    cases q a with
    | true =>
      show h a :: ((_ : List Nat).map Nat.succ).map _ = h a :: _
      rw [List.map_map, ← ih]; rfl
    | false =>
      show ((_ : List Nat).map Nat.succ).map _ = _
      rw [List.map_map]; exact ih
variable {js : List Nat} {sp : Dv → Option (List Dv)} {elt tg iter : Expr}
theorem elcf {α : Type} (l : List α) (g : α → Dv) (q : α → Bool) (h : α → Tr) {ifs : List Expr} {sc : Scope} {own : List Str} {fr : List Nat} {cl : ι → List (Str × Addr)} (hi : EvI F tg iter ρ (l.map g)) (hg : EvG (famLc F own fr sc cl) tg js sp) (hjs : ∀ j ∈ js, j < own.length) (hz : l.length < sizeLine)
    (step : ∀ a ∈ l, ∃ dd, sp (g a) = some dd ∧ El (famLc F own fr sc cl) ifs (setAll js (dd.map .fz) (lcEn own fr ρ)) (q a) ∧ (q a = true → Ev (famLc F own fr sc cl) elt (setAll js (dd.map .fz) (lcEn own fr ρ)) (h a)))
    (hdrop : ∀ dd : List Dv, dropAll js (setAll js (dd.map .fz) (lcEn own fr ρ)) = lcEn own fr ρ) : Elc F own fr sc cl elt tg iter ifs ρ (.ow ((l.filter q).map h)) := by
  have := elc (ifs := ifs) hi hg hjs (fun k => ((l[k]?).map q).getD false) (fun k => ((l[k]?).map h).getD tn) (by rw [List.length_map]; exact hz) (fun k d hd => by
    obtain ⟨a, ha, rfl⟩ := map_get hd
    obtain ⟨dd, s1, s2, s3⟩ := step a (List.mem_of_getElem? ha)
    refine ⟨dd, s1, ?_, ?_⟩
    · show El _ _ _ (((l[k]?).map q).getD false)
      rw [ha]; exact s2
    · show ((l[k]?).map q).getD false = true → Ev _ _ _ (((l[k]?).map h).getD tn)
      rw [ha]; exact s3) hdrop
  rw [List.length_map, filt_get] at this
  exact this
theorem elcm {α : Type} (l : List α) (g : α → Dv) (h : α → Tr) {sc : Scope} {own : List Str} {fr : List Nat} {cl : ι → List (Str × Addr)} (hi : EvI F tg iter ρ (l.map g)) (hg : EvG (famLc F own fr sc cl) tg js sp) (hjs : ∀ j ∈ js, j < own.length) (hz : l.length < sizeLine)
    (step : ∀ a ∈ l, ∃ dd, sp (g a) = some dd ∧ Ev (famLc F own fr sc cl) elt (setAll js (dd.map .fz) (lcEn own fr ρ)) (h a))
    (hdrop : ∀ dd : List Dv, dropAll js (setAll js (dd.map .fz) (lcEn own fr ρ)) = lcEn own fr ρ) : Elc F own fr sc cl elt tg iter [] ρ (.ow (l.map h)) := by
  have := elcf l g (fun _ => true) h hi hg hjs hz (fun a ha => let ⟨dd, s1, s2⟩ := step a ha; ⟨dd, s1, el_nil, fun _ => s2⟩) hdrop
  rwa [List.filter_eq_self.mpr fun _ _ => rfl] at this
theorem ev_lcf {α : Type} (l : List α) (g : α → Dv) (q : α → Bool) (h : α → Tr) {ifs : List Expr} {sc : Scope} {own : List Str} {fr : List Nat} {cl : ι → List (Str × Addr)} (L : ∀ i, LcScope (F.cx i) sc (cl i) fr) (hi : EvI F tg iter ρ (l.map g)) (hg : EvG (famLc F own fr sc cl) tg js sp) (hjs : ∀ j ∈ js, j < own.length) (hz : l.length < sizeLine)
    (step : ∀ a ∈ l, ∃ dd, sp (g a) = some dd ∧ El (famLc F own fr sc cl) ifs (setAll js (dd.map .fz) (lcEn own fr ρ)) (q a) ∧ (q a = true → Ev (famLc F own fr sc cl) elt (setAll js (dd.map .fz) (lcEn own fr ρ)) (h a)))
    (hdrop : ∀ dd : List Dv, dropAll js (setAll js (dd.map .fz) (lcEn own fr ρ)) = lcEn own fr ρ) (hs : ∀ i x, foldedSetIterable iter (F.cx i).env x = pure x := by intro _ _; rfl) : Ev F (.ListComp elt [⟨tg, iter, ifs, 0⟩] sc pos) ρ (.ow ((l.filter q).map h)) := by
  have := ev_lc (ifs := ifs) (pos := pos) L hi hg hjs (fun k => ((l[k]?).map q).getD false) (fun k => ((l[k]?).map h).getD tn) (by rw [List.length_map]; exact hz) (fun k d hd => by
    obtain ⟨a, ha, rfl⟩ := map_get hd
    obtain ⟨dd, s1, s2, s3⟩ := step a (List.mem_of_getElem? ha)
    refine ⟨dd, s1, ?_, ?_⟩
    · show El _ _ _ (((l[k]?).map q).getD false)
      rw [ha]; exact s2
    · show ((l[k]?).map q).getD false = true → Ev _ _ _ (((l[k]?).map h).getD tn)
      rw [ha]; exact s3) hdrop hs
  rw [List.length_map, filt_get] at this
  exact this
theorem ev_lcm {α : Type} (l : List α) (g : α → Dv) (h : α → Tr) {sc : Scope} {own : List Str} {fr : List Nat} {cl : ι → List (Str × Addr)} (L : ∀ i, LcScope (F.cx i) sc (cl i) fr) (hi : EvI F tg iter ρ (l.map g)) (hg : EvG (famLc F own fr sc cl) tg js sp) (hjs : ∀ j ∈ js, j < own.length) (hz : l.length < sizeLine)
    (step : ∀ a ∈ l, ∃ dd, sp (g a) = some dd ∧ Ev (famLc F own fr sc cl) elt (setAll js (dd.map .fz) (lcEn own fr ρ)) (h a))
    (hdrop : ∀ dd : List Dv, dropAll js (setAll js (dd.map .fz) (lcEn own fr ρ)) = lcEn own fr ρ) (hs : ∀ i x, foldedSetIterable iter (F.cx i).env x = pure x := by intro _ _; rfl) : Ev F (.ListComp elt [⟨tg, iter, [], 0⟩] sc pos) ρ (.ow (l.map h)) := by
  have := ev_lcf (pos := pos) l g (fun _ => true) h L hi hg hjs hz (fun a ha => let ⟨dd, s1, s2⟩ := step a ha; ⟨dd, s1, el_nil, fun _ => s2⟩) hdrop hs
  rwa [List.filter_eq_self.mpr fun _ _ => rfl] at this
theorem er_ow_map {α : Type} (l : List α) (h : α → Tr) : er (.ow (l.map h)) = .lst (l.map fun a => er (h a)) := by
  show Dv.lst (ers _) = _
  rw [ers_map, List.map_map]; rfl
end
end L2
namespace L2
open PySem PySem.Spec PyProof.Rows Fra
section
variable {ι : Type} {F : Fam ι} {e a b c : Expr} {es : List Expr} {ρ : En} {t ta tb' : Tr} {ts : List Tr} {pos : Pos}
end
end L2
namespace L2
open PySem PySem.Spec PyProof.Rows
section
variable {ι : Type} {F : Fam ι} {e a b c : Expr} {es : List Expr} {ρ : En} {t ta tb' : Tr} {ts : List Tr} {pos : Pos}
end
end L2
namespace L2
open PySem PySem.Spec PyProof.Rows
section
variable {prog : Program} {w : World} {A : Around} {E : Value → Shared → Prop} {s : Shared}
end
end L2
namespace PySem.F
end PySem.F
namespace L2
open PySem PySem.Spec PyProof.Rows
section
variable {prog : Program} {w : World} {A : Around} {E : Value → Shared → Prop} {s : Shared}
end
section
variable {prog : Program} {w : World} {A : Around} {s : Shared} {R : Result → Shared → Prop}
end
section
variable {ι : Type} {F : Fam ι} {a b : Expr} {ρ : En} {ta tb' : Tr} {pos : Pos}
end
end L2
namespace L2
open PySem PySem.Spec PyProof.Rows
theorem RS.frz {K : PySem.W.Frag} {G0 H0 G H : Hp} {ρ : En} {σ : St} {j : Nat} {t : Tr} (r : RS K G0 H0 G H ρ σ) (h : ρ[j]? = some (some t)) : ∃ G1, RS K G0 H0 G1 H (ρ.set j (some (.fz (er t)))) σ := by
  obtain ⟨fp, r⟩ := r
  obtain ⟨v, f, fr, q1, q2, q3, q4⟩ := r.own.split h
  have nd := q4.nodup_iff.mp r.d
  have inf : ∀ a ∈ f, a ∈ fp := fun a ha => q4.mem_iff.mpr (List.mem_append_left _ ha)
  have inr : ∀ a ∈ fr, a ∈ fp := fun a ha => q4.mem_iff.mpr (List.mem_append_right _ ha)
  have w : Nw H0 G f := ⟨fun a ha => r.n a (inf a ha), fun a ha => r.g a (inf a ha), (List.nodup_append.mp nd).1⟩
  have hv : Hv K (frzd G H f) (er t) v := q2.hv (frzd_same w.g) fun a ha => frzd_in ha
  have own2 : OwS K (frzd G H f) H (ρ.set j none) σ fr := q3.mono (frzd_same w.g) (Same.refl H)
  have hj : j < ρ.length := by
    rcases Nat.lt_or_ge j ρ.length with z | z
    · exact z
    · rw [List.getElem?_eq_none z] at h; cases h
  obtain ⟨fp', p1, p2⟩ := own2.put (get_set_none hj) (t := .fz (er t)) (v := v) (f := []) ⟨rfl, hv⟩
  rw [List.set_set] at p1
  have es : σ.set j (some v) = σ := by
    refine List.ext_getElem? fun i => ?_
    rw [List.getElem?_set]
    split
    · rename_i e
      subst e
      split
      · exact q1.symm
      · rename_i z; rw [List.getElem?_eq_none (by omega)] at q1; cases q1
    · rfl
  rw [es] at p1
  have inq : ∀ a ∈ fp', a ∈ fr := fun a ha => by simpa using p2.mem_iff.mp ha
  refine ⟨frzd G H f, fp', r.st.frz w, p1, fun a ha => ?_, fun a ha => r.n a (inr a (inq a ha)), p2.nodup_iff.mpr (by simpa using (List.nodup_append.mp nd).2.1)⟩
  have hn : a ∉ f := fun z => (List.nodup_append.mp nd).2.2 a z a (inq a ha) rfl
  rw [frzd_out hn]
  exact r.g a (inr a (inq a ha))
section
variable {ι : Type} {F : Fam ι} {sts : List Stmt} {ρ : En} {o : Out} {t : Tr}
theorem rns_frz (j : Nat) (h : ρ[j]? = some (some t)) (hr : Rns F sts (ρ.set j (some (.fz (er t)))) o) : Rns F sts ρ o := by
  obtain ⟨τ, x, y⟩ := hr
  exact ⟨τ, x, fun D σ G0 H0 G H r k => by
    obtain ⟨G1, r1⟩ := r.frz h
    exact y D σ G0 H0 G1 H r1 k⟩
end
section
variable {ι : Type} {F : Fam ι} {a b : Expr} {ρ : En} {pos : Pos}
end
end L2
namespace L2
open PySem PySem.Spec PyProof.Rows
theorem rn_tpset {ι : Type} {F : Fam ι} {e : Expr} {ρ : En} {t : Tr} {pos : Pos} (j i : Nat) {x : Str} {ts us : List Tr} {n : Int} {m : Nat} {nE : Expr} {p1 p2 p3 p4 : Pos} {kk : Nat} (h : ρ[j]? = some (some (.tp ts))) (hi : ts[i]? = some (.ow us)) (hn : EvS F nE ρ (ti n)) (hm : ixN us.length n = some m) (he : EvS F e ρ t)
    (hps : ∀ i', PG (F.cx i') (.Subscript (.Subscript (.Name x p1) (.Constant (.int i) kk p4) p3) nE p2) (gSub (tOp (rIxT F.K) (tVar j) (tC (.int i))) (uE F nE) rSetL))
    (hs : ∀ i', swapsWithSole [.Subscript (.Subscript (.Name x p1) (.Constant (.int i) kk p4) p3) nE p2] e pos.line (F.cx i').env = pure false := by intro _; rfl) (hw : ∀ i', swappedStores [.Subscript (.Subscript (.Name x p1) (.Constant (.int i) kk p4) p3) nE p2] e (F.cx i').env = pure none := by intro _; rfl)
    (h1 : ∀ i', (assignEach [.Subscript (.Subscript (.Name x p1) (.Constant (.int i) kk p4) p3) nE p2] (F.cx i').env).map (·.2) = [assign (.Subscript (.Subscript (.Name x p1) (.Constant (.int i) kk p4) p3) nE p2) (F.cx i').env] := by intro _; rfl) :
    Rn F (.Assign [.Subscript (.Subscript (.Name x p1) (.Constant (.int i) kk p4) p3) nE p2] e pos) ρ (.nx (ρ.set j (some (.tp (ts.set i (.ow (us.set m t))))))) := by
  obtain ⟨τ, y, z⟩ := he
  obtain ⟨τn, yn, zn⟩ := hn
  refine ⟨tAsg τ (gSub (tOp (rIxT F.K) (tVar j) (tC (.int i))) (uE F nE) rSetL), fun i' => ps_asg (y i') (hps i') (hs i') (hw i') (h1 i'), fun D σ G0 H0 G H r k => ?_⟩
  obtain ⟨fp, r⟩ := r
  refine z σ G H fp _ r.st.s r.own r.g fun v1 G1 H1 f1 s1 o1 w1 => ?_
  have r1 : RSf F.K G0 H0 G1 H1 ρ σ fp := ⟨r.st.trans s1, r.own.mono s1.g s1.h, r.own.off s1 r.g, r.n, r.d⟩
  obtain ⟨v0, f0, c1, c2, _, nd0, _, _⟩ := r1.chg h (.refl r1.st.s)
  obtain ⟨l0, vs0, fq0, rfl, hl0, ol0, rfl⟩ := c2
  obtain ⟨lc, xc, fc, e1, e2, e3, _⟩ := ol0.child hi (List.nodup_cons.mp nd0).2
  refine ⟨_, c1, l0, vs0, (i : Int), .ref lc, rfl, rfl, SqT.of hl0, atI_nat e1, τn, yn, zn σ G1 H1 fp _ r1.st.s r1.own r1.g fun vn G2 H2 f2 s2 o2 w2 => ?_⟩
  obtain ⟨v2, f2', d1, d2, d3, dn, d5, d7⟩ := r.chg h (s1.trans s2)
  obtain ⟨l2, vs2, fq2, rfl, hl2, ol2, rfl⟩ := d3
  rw [c1] at d1
  cases d1
  have hl1 : H2 l0 = some (.tup vs0) := s2.h _ _ hl0
  rw [hl2] at hl1
  cases hl1
  have ndq := List.nodup_cons.mp dn
  obtain ⟨l, xs, fw, g1, g2, g3, g4, g5, g6, g7, g8⟩ := ol2.child hi ndq.2
  rw [e1] at g1
  cases g1
  have hm' : m < us.length := (ixN_seq hm).2.1
  have nf1 : ∀ a ∈ f1, a ∉ fp := fun a ha hb => by
    obtain ⟨u, hu⟩ := r.own.there a hb
    rw [w1.n a ha] at hu; cases hu
  obtain ⟨fw', q1, q2, q3⟩ := g4.setAt hm' (o1.mono s2.g s2.h) g6 w1.d fun a ha z => nf1 a ha (d5 a (.tail _ (g5 a z)))
  obtain ⟨fq', b1, b2, b3⟩ := g8 (us.set m t) (xs.set m v1) fw' q1 q2 (fun a ha => (q3 a ha).imp id fun z z' => nf1 a z (d5 a (.tail _ z'))) (fun z => (q3 _ z).elim g7 fun z => nf1 _ z (d5 _ (.tail _ g2)))
  have l0q : l0 ∉ fq' := fun z => by
    rcases b3 l0 z with z | z
    · exact ndq.1 z
    · rcases q3 l0 z with z | z
      · exact ndq.1 (g5 _ z)
      · exact nf1 _ z (d5 _ (.head _))
  have lne : l0 ≠ lc := fun z => ndq.1 (z ▸ g2)
  refine ⟨lc, xs, n, m, rfl, hvi o2.2, g3, by rw [← g4.length]; exact hm, k σ G2 _ (d7 lc (.lst (xs.set m v1)) (.tp (ts.set i (.ow (us.set m t)))) (l0 :: fq') (.tail _ g2) ⟨l0, _, fq', rfl, by rw [upd_ne lne]; exact hl2, b1, rfl⟩ (List.nodup_cons.mpr ⟨l0q, b2⟩) fun a ha => ?_)⟩
  rcases List.mem_cons.mp ha with z | z
  · exact .inl (z ▸ .head _)
  · rcases b3 a z with z | z
    · exact .inl (.tail _ z)
    · rcases q3 a z with z | z
      · exact .inl (.tail _ (g5 a z))
      · refine .inr ⟨w1.n a z, ?_⟩
        cases q : G2 a with
        | none => rfl
        | some u =>
          obtain ⟨u', hu'⟩ := o1.there a z
          have := s2.n a (w1.g a z) (by rw [q]; exact fun z => nomatch z)
          rw [hu'] at this; cases this
end L2
namespace L2
open PySem PySem.Spec PyProof.Rows
theorem ints_ow {K : PySem.W.Frag} {G H : Hp} : ∀ {o : List Int} {xs : List V} {fq : List Addr}, OwL K G H (o.map fun n => .fz (di n)) xs fq → xs = o.map V.int ∧ fq = []
  | [], _, _, h => h
  | n :: o, _, _, ⟨v, r, f1, f2, h1, h2, ⟨h3, h3'⟩, h4⟩ => by
    obtain ⟨e1, e2⟩ := ints_ow h4
    subst h1 h2 h3 e1 e2
    rw [hvi h3']
    exact ⟨rfl, rfl⟩
theorem rows_ow {K : PySem.W.Frag} {G H : Hp} : ∀ {os : List (List Int)} {vs : List V} {fq : List Addr}, OwL K G H (os.map tInts) vs fq → ∃ ps : List (Addr × List Int), vs = ps.map (fun p => V.ref p.1) ∧ fq = ps.map (·.1) ∧ ps.map (·.2) = os ∧ ∀ p ∈ ps, H p.1 = some (.lst (p.2.map V.int))
  | [], _, _, ⟨h1, h2⟩ => ⟨[], h1, h2, rfl, fun _ z => nomatch z⟩
  | o :: os, _, _, ⟨v, r, f1, f2, h1, h2, ⟨a, xs, fa, g1, g2, g3, g4⟩, h4⟩ => by
    obtain ⟨ps, e1, e2, e3, e4⟩ := rows_ow h4
    obtain ⟨i1, i2⟩ := ints_ow g3
    subst h1 h2 e1 e2 g1 g4 i1 i2
    refine ⟨(a, o) :: ps, rfl, rfl, by rw [List.map_cons, e3], fun p hp => ?_⟩
    rcases List.mem_cons.mp hp with rfl | hp
    · exact g2
    · exact e4 p hp
def Md (f : List Addr) (H H2 : Hp) : Prop := ∀ b o, b ∉ f → H b = some o → H2 b = some o
theorem Md.refl {f : List Addr} {H : Hp} : Md f H H := fun _ _ _ h => h
theorem Md.trans {f : List Addr} {H H1 H2 : Hp} (a : Md f H H1) (b : Md f H1 H2) : Md f H H2 := fun x o n h => b x o n (a x o n h)
theorem Md.upd {f : List Addr} {H : Hp} {l : Addr} {o : HO} (hl : l ∈ f) : Md f H (L2.upd H l o) := fun b u n h => by
  rw [upd_ne (show b ≠ l from fun z => n (z ▸ hl))]; exact h
theorem Md.sub {f f' : List Addr} {H H' : Hp} (m : Md f H H') (s : ∀ a ∈ f, a ∈ f') : Md f' H H' := fun b o n h => m b o (fun z => n (s b z)) h
mutual
theorem Ow.agree {K : PySem.W.Frag} {G H H2 : Hp} : ∀ {t : Tr} {v : V} {fp : List Addr}, Ow K G H t v fp → (∀ a ∈ fp, H2 a = H a) → Ow K G H2 t v fp
  | .fz _, _, _, h, _ => h
  | .ow _, _, _, ⟨b, vs, fq, h1, h2, h3, h4⟩, n => by
    subst h4
    exact ⟨b, vs, fq, h1, (n b (.head _)).trans h2, OwL.agree h3 fun a z => n a (.tail _ z), rfl⟩
  | .tp _, _, _, ⟨b, vs, fq, h1, h2, h3, h4⟩, n => by
    subst h4
    exact ⟨b, vs, fq, h1, (n b (.head _)).trans h2, OwL.agree h3 fun a z => n a (.tail _ z), rfl⟩
theorem OwL.agree {K : PySem.W.Frag} {G H H2 : Hp} : ∀ {ts : List Tr} {vs : List V} {fp : List Addr}, OwL K G H ts vs fp → (∀ a ∈ fp, H2 a = H a) → OwL K G H2 ts vs fp
  | [], _, _, h, _ => h
  | _ :: _, _, _, ⟨v, r, f1, f2, h1, h2, h3, h4⟩, n => by
    subst h2
    exact ⟨v, r, f1, f2, h1, rfl, h3.agree fun a z => n a (List.mem_append_left _ z), OwL.agree h4 fun a z => n a (List.mem_append_right _ z)⟩
end
theorem OwS.agree {K : PySem.W.Frag} {G H H2 : Hp} : ∀ {ρ : En} {σ : St} {fp : List Addr}, OwS K G H ρ σ fp → (∀ a ∈ fp, H2 a = H a) → OwS K G H2 ρ σ fp
  | [], _, _, h, _ => h
  | none :: _, _, _, ⟨o, r, h1, h2⟩, n => ⟨o, r, h1, OwS.agree h2 n⟩
  | some _ :: _, _, _, ⟨v, r, f1, f2, h1, h2, h3, h4⟩, n => by
    subst h2
    exact ⟨v, r, f1, f2, h1, rfl, h3.agree fun a z => n a (List.mem_append_left _ z), OwS.agree h4 fun a z => n a (List.mem_append_right _ z)⟩
theorem OwS.setn {K : PySem.W.Frag} {G H : Hp} {u : Option V} : ∀ {ρ : En} {σ : St} {fp : List Addr} {y : Nat}, OwS K G H ρ σ fp → ρ[y]? = some none → OwS K G H ρ (σ.set y u) fp
  | none :: _, _, _, 0, ⟨o, r, h1, h2⟩, _ => by subst h1; exact ⟨u, r, rfl, h2⟩
  | none :: _, _, _, y + 1, ⟨o, r, h1, h2⟩, h => by subst h1; exact ⟨o, _, rfl, OwS.setn (y := y) h2 h⟩
  | some _ :: _, _, _, 0, _, h => by cases h
  | some _ :: _, _, _, y + 1, ⟨v, r, f1, f2, h1, h2, h3, h4⟩, h => by subst h1; exact ⟨v, _, f1, f2, rfl, h2, h3, OwS.setn (y := y) h4 h⟩
theorem RS.setn {K : PySem.W.Frag} {G0 H0 G H : Hp} {ρ : En} {σ : St} {y : Nat} {u : Option V} (r : RS K G0 H0 G H ρ σ) (h : ρ[y]? = some none) : RS K G0 H0 G H ρ (σ.set y u) := by
  obtain ⟨fp, r⟩ := r
  exact ⟨fp, r.st, r.own.setn h, r.g, r.n, r.d⟩
section
variable {ι : Type} {F : Fam ι} {ρ ρ' : En} {o : Out} {rest : List Stmt}
end
end L2
namespace L2
open PySem PySem.Spec PyProof.Rows
end L2
namespace L2
open PySem PySem.Spec PyProof.Rows
section
variable {ι : Type} {F : Fam ι} {e : Expr} {ρ : En} {pos : Pos}
theorem rn_ret2 (ja jb : Nat) {xa xb : Str} {ta tb : Tr} {pa pb pt : Pos} {kt} (hjj : ja ≠ jb) (ha : ρ[ja]? = some (some ta)) (hb : ρ[jb]? = some (some tb))
    (hps : ∀ i, PS (F.cx i) (.Return (some (.Tuple [.Name xa pa, .Name xb pb] kt pt)) pos) (tRet (tTup (tCons (tVar ja) (tCons (tVar jb) tNil))))) : Rn F (.Return (some (.Tuple [.Name xa pa, .Name xb pb] kt pt)) pos) ρ (.rt (.tp [ta, tb])) := by
  refine ⟨_, hps, fun D σ G0 H0 G H r k => ?_⟩
  obtain ⟨fp, r⟩ := r
  obtain ⟨va, fa, fr, a1, a2, a3, a4⟩ := r.own.split ha
  obtain ⟨vb, fb, fr2, b1, b2, b3, b4⟩ := a3.split (j := jb) (t := tb) (by rw [List.getElem?_set_ne hjj]; exact hb)
  have pm : fp.Perm (fa ++ (fb ++ fr2)) := a4.trans (List.Perm.append_left _ b4)
  have nd := List.nodup_append.mp (pm.nodup_iff.mp r.d)
  have nd2 := List.nodup_append.mp nd.2.1
  have sub : ∀ a ∈ fa ++ (fb ++ []), a ∈ fp := fun a ha => by
    rw [List.append_nil] at ha
    rcases List.mem_append.mp ha with z | z
    · exact pm.mem_iff.mpr (List.mem_append_left _ z)
    · exact pm.mem_iff.mpr (List.mem_append_right _ (List.mem_append_left _ z))
  refine ⟨va, a1, vb, b1, by show 2 ≤ sizeLine; decide, fun p hp => ?_⟩
  have np : ∀ a ∈ fp, p ≠ a := fun a ha e => by
    obtain ⟨u, hu⟩ := r.own.there a ha
    rw [← e, hp] at hu; cases hu
  have pf : p ∉ fa ++ (fb ++ []) := fun z => np p (sub p z) rfl
  refine k (.ref p) G _ (p :: (fa ++ (fb ++ []))) (r.st.trans (.newO r.st.s hp)) ⟨p, _, _, rfl, upd_same, ⟨va, _, fa, _, rfl, rfl, a2.frame fun z => pf (List.mem_append_left _ z), vb, [], fb, [], rfl, rfl, b2.frame fun z => pf (List.mem_append_right _ (by rw [List.append_nil]; exact z)), rfl, rfl⟩, rfl⟩ ⟨fun a ha => ?_, fun a ha => ?_, List.nodup_cons.mpr ⟨pf, ?_⟩⟩
  · rcases List.mem_cons.mp ha with rfl | z
    · exact r.st.h.free hp
    · exact r.n a (sub a z)
  · rcases List.mem_cons.mp ha with rfl | z
    · exact r.st.s.free hp
    · exact r.g a (sub a z)
  · rw [List.append_nil]
    exact List.nodup_append.mpr ⟨nd.1, nd2.1, fun a ha b hb e => nd.2.2 a ha b (List.mem_append_left _ hb) e⟩
end
end L2
namespace L2
open PySem PySem.Spec PyProof.Rows
section
variable {ι : Type} {F : Fam ι} {ρ ρ1 ρ' : En} {st : Stmt} {sts body A B : List Stmt} {c tg iter : Expr} {pos : Pos} {its : List Dv} {js : List Nat} {sp : Dv → Option (List Dv)}
end
end L2
namespace L2
open PySem PySem.Spec PyProof.Rows
end L2
namespace L2
open PySem PySem.Spec PyProof.Rows
section
variable {X : Cx}
end
section
variable {ι : Type} {F : Fam ι} {e : Expr} {ρ : En} {pos : Pos} {ta : Tr}
end
section
variable {ι : Type} {F : Fam ι} {ρ : En} {t : Tr} {c : Expr} {A sts : List Stmt} {pos : Pos}
theorem rns_ifr {p : Bool} (hc : EtS F c ρ p) (h1 : p = true → Rns F A ρ (.rt t)) (h2 : p = false → Rns F sts ρ (.rt t)) : Rns F (.If c A [] pos :: sts) ρ (.rt t) := by
  cases p with
  | true => exact rns_ret (rn_ifT hc rfl (h1 rfl))
  | false => exact rns_cons (rn_skip hc rfl) (h2 rfl)
end
section
variable {ι : Type} {F : Fam ι} {ρ : En} {tg iter : Expr} {body sts : List Stmt} {pos : Pos} {its : List Dv} {js : List Nat} {sp : Dv → Option (List Dv)} {o : Out}
end
end L2
namespace L2
open PySem PySem.Spec PyProof.Rows
section
open PySem.MeetsSeq PySem.AutoSeq1
end
section
variable {X : Cx}
end
end L2
namespace L2
open PySem PySem.Spec PyProof.Rows
section
variable {κ : Type} [DecidableEq κ]
end
section
variable {P : Program} {w : World} {H : Hp} {h : Heap} {a : Addr}
end
section
variable {X : Cx} {pins : List (Addr × Obj)} {σ : St} {H : Hp} {s : Shared} {a : Addr} {y v : V} {u r : Value} {o : Option V} {A : Around} {E : Value → Shared → Prop}
end
section
variable {X : Cx} {pins : List (Addr × Obj)} {σ : St} {H : Hp} {s : Shared} {a : Addr} {kvs : List (Key × V)} {k : Key} {u : Value} {A : Around} {E : Value → Shared → Prop}
end
section
variable {X : Cx} {o i e value : Expr} {pos pos' tpos : Pos} {td ty tv : TE}
end
section
variable {X : Cx} {pos : Pos}
end
section
variable {X : Cx} {pins : List (Addr × Obj)} {σ : St} {H : Hp} {s : Shared} {a : Addr} {y d : V} {u r : Value} {o : Option V} {A : Around} {E : Value → Shared → Prop}
end
section
variable {X : Cx} {o e f : Expr} {apos cpos : Pos} {td ty tx : TE}
end
section
variable {X : Cx} {pins : List (Addr × Obj)} {σ : St} {H : Hp} {s : Shared} {a : Addr} {kvs : List (Key × V)} {A : Around} {E : Value → Shared → Prop}
end
section
variable {X : Cx} {pins : List (Addr × Obj)} {σ : St} {H : Hp} {s : Shared} {a : Addr} {y : V} {u : Value} {A : Around} {E : Value → Shared → Prop}
end
end L2
namespace L2
open PySem PySem.Spec PyProof.Rows
section
variable {ι : Type} {F : Fam ι} {e a b c : Expr} {ρ : En} {t ta tb' : Tr} {pos : Pos}
end
end L2
namespace L2
open PySem PySem.Spec PyProof.Rows
section
variable {X : Cx}
end
theorem EtS.to {ι : Type} {F : Fam ι} {e : Expr} {ρ : En} {p q : Bool} (h : EtS F e ρ p) (z : p = q) : EtS F e ρ q := z ▸ h
section
variable {ι : Type} {F : Fam ι} {a : Expr} {ρ : En} {pos : Pos} {ta : Tr}
theorem ev_isN {v : V} {j : Nat} {p' : Pos} (ha : Ev F a ρ (.fz (.fl v))) : Ev F (.Compare a [.Is] [.Constant .none j p'] pos) ρ (tb (decide (v = .non))) :=
  ev_cmp (fun _ => op_isN) ha ev_non (fun G H x y Q s hx hy k => ⟨hvi hy, by rw [hvi hx]; exact k⟩) (nomark _)
end
end L2
namespace L2
open PySem PySem.Spec PyProof.Rows
end L2
namespace L2
open PySem PySem.Spec PyProof.Rows
end L2
namespace L2
open PySem PySem.Spec PyProof.Rows
section
variable (P : Program) (w : World) (K : PySem.W.Frag) (mg : Str → Option Value) (base : Heap) (N : List Str) (qual : Str) (sc : Scope) (f : Addr) (k : Nat)
end
section
variable {P : Program} {w : World} {K : PySem.W.Frag} {mg : Str → Option Value} {base : Heap} {N : List Str} {qual : Str} {sc : Scope} {f : Addr} {k : Nat} {ρ ρ1 : En} {st : Stmt} {sts A B : List Stmt} {C : Addr} {c : Expr} {pos : Pos}
end
structure IxT (ι : Type) where
  i : ι
  XE : Value → Shared → Prop
  pn : List (Addr × Obj)
def famT {ι : Type} (F : Fam ι) : Fam (IxT ι) where
  cx i := (F.cx i.i).inTry i.XE i.pn
  P := F.P
  w := F.w
  K := F.K
  mg := F.mg
  base := F.base
  room := F.room
  hP i := F.hP i.i
  hw i := F.hw i.i
  hK i := F.hK i.i
  hm i := F.hm i.i
  hb i := F.hb i.i
  hr i := F.hr i.i
  calm i := F.calm i.i
structure Cat (K : PySem.W.Frag) (mg : Str → Option Value) (x : Str) (D : Addr) : Prop where
  g : mg x = some (.ref D)
  t : PySem.W.typeIn K (.ref D) = some (.type "type")
  i : PySem.W.isClsIn K D = true
  e : PySem.W.subIn K (.ref D) (.type "BaseException") = some true
section
variable {ι : Type} {F : Fam ι} {ρ ρ' : En} {D : Addr} {i : Nat} {n x : Str} {np hpos pos : Pos} {body suite : List Stmt} {b₀ : Stmt}
theorem rn_try_ok (c : Cat F.K F.mg x D) (i : Nat) (hb : Rns (famT F) body ρ (.nx ρ')) (hN : ∀ q, (F.cx q).N.Nodup) (hi : ∀ q, (F.cx q).N[i]? = some n := by intro _; rfl) (hl : ∀ q, (F.cx q).env.scope.names.lookup n = some .local := by intro _; rfl)
    (hst : ∀ q, ∃ outer, (F.cx q).stack = (F.cx q).env :: outer := by intro _; exact ⟨_, rfl⟩) (hfr : ∀ q, ∃ L, (F.cx q).env.frame = some L := by intro _; exact ⟨_, rfl⟩) (hex : ∀ q, (F.cx q).ex = [] := by intro _; rfl) (hg : ∀ q, Gl (F.cx q) x := by intro _; rfl) (hdb : (x == ("__debug__" : Str)) = false := by decide) :
    Rn F (.Try body [.ExceptHandler (some (.Name x np)) (some n) (b₀ :: suite) hpos] [] [] pos) ρ (.nx ρ') := by
  obtain ⟨τ, y, z⟩ := hb
  refine ⟨tTry F.K D i (fun _ => τ) tNever, fun q => ?_, z⟩
  obtain ⟨outer, hst⟩ := hst q
  obtain ⟨L, hfr⟩ := hfr q
  have := ps_try (X := F.cx q) (D := D) (i := i) (n := n) (x := x) (np := np) (hpos := hpos) (pos := pos) (body := body) (suite := suite) (b₀ := b₀) (tb := fun _ => τ) (th := tNever) (hN q) (hi q) (hl q) hst hfr (hex q) (hg q) (by rw [F.hm q]; exact c.g) (by rw [F.hK q]; exact c.t) (by rw [F.hK q]; exact c.i) (by rw [F.hK q]; exact c.e) (fun E XE pn _ => y ⟨q, XE, pn⟩) (fun v => pss_never) hdb
  rw [F.hK q] at this
  exact this
end
end L2
namespace L2
open PySem
def InvRes (M : Model) (Γ : Ctx) (p : Pos) (s : Shared) (e : End) (s' : Shared) (g : Nat) (r : Resume) (k : GenResult → Sem Fin) : Prop :=
  match s.gens[g]? with
    | none => False
    | some (.fresh c) => (match r with
      | .send .none => ∃ e1 s1, Runs M (Γ.wake c p) p (M.den c) [] (s.setGen g .running) e1 s1 ∧ Runs M Γ p (k e1.result) [] (s1.setGen g e1.genState) e s'
      | .send _ => Runs M Γ p (k .justStarted) [] s e s'
      | .throw x => Runs M Γ p (k (.raised x)) [] (s.setGen g .finished) e s')
    | some (.suspended k0 _ c0 p0 fs _) => ∃ e1 s1, Runs M (Γ.wake c0 p) p0 (k0 r) fs (s.setGen g .running) e1 s1 ∧ Runs M Γ p (k e1.result) [] (s1.setGen g e1.genState) e s'
    | some .running => Runs M Γ p (k .running) [] s e s'
    | some .finished => Runs M Γ p (k .finished) [] s e s'
def Inv0 (M : Model) (Γ : Ctx) (p : Pos) (s : Shared) (e : End) (s' : Shared) : Sem Fin → Prop
  | .pure (.done f) => e = .ret (.ok f) ∧ s' = s
  | .pure (.again c) => Runs M (Γ.goto c) p (M.den c) [] s e s'
  | .raise x => e = .ret (.error x) ∧ s' = s
  | .rule _ k => Runs M Γ p (k ()) [] s e s'
  | .at p' k => Runs M Γ p' (k ()) [] s e s'
  | .load a _ k => ∃ o, s.heap.get? a = some o ∧ Runs M Γ p (k o) [] s e s'
  | .update a _ f k => Runs M Γ p (k ()) [] { s with heap := s.heap.update a f } e s'
  | .loadIfAlive a k => Runs M Γ p (k (s.heap.get? a)) [] s e s'
  | .point _ k => Runs M Γ p (k ()) [] s e s'
  | .alloc o k => Runs M Γ p (k s.heap.objs.size) [] { s with heap := s.heap.push o } e s'
  | .fresh k => Runs M Γ p (k s.toks) [] { s with toks := s.toks + 1 } e s'
  | .ask k => Runs M Γ p (k ⟨M.prog, M.w.params⟩) [] s e s'
  | .choose src n k => Runs M Γ p (k (M.w.draws src (s.drawn.get src) % n)) [] { s with drawn := s.drawn.bump src } e s'
  | .os q _ k => Runs M Γ p (k (Os.step s.os q).2) [] { s with os := (Os.step s.os q).1 } e s'
  | .handled own k => Runs M Γ p (k (if own then Γ.own else Γ.handled)) [] s e s'
  | .genState g k => ∃ st, s.gens[g]? = some st ∧ Runs M Γ p (k st.seen) [] s e s'
  | .stack k => Runs M Γ p (k ((Γ.code, p) :: Γ.below)) [] s e s'
  | .thread k => Runs M Γ p (k 0) [] s e s'
  | .newGen c k => Runs M Γ p (k s.gens.size) [] { s with gens := s.gens.push (.fresh c) } e s'
  | .call c h g l k => ∃ e1 s1, Runs M (Γ.enter c h p) p (M.den c) [] s e1 s1 ∧ (match e1 with
      | .ret r => Runs M Γ p (k r) [] s1 e s'
      | .susp v g0 l0 k0 c0 p0 fs => e = .susp v g0 l0 k0 c0 p0 (fs ++ [.ret k h g l Γ.code p []]) ∧ s' = s1)
  | .yield v g l k => e = .susp v g l k Γ.code p [] ∧ s' = s
  | .resume g r _ k => InvRes M Γ p s e s' g r k
  | _ => False
def Inv1 (M : Model) (Γ : Ctx) (p : Pos) (t : Sem Fin) (F : Frame) (fs : List Frame) (s : Shared) (e : End) (s' : Shared) : Prop :=
  ∃ e1 s1, Runs M (Γ.over (F :: fs)) p t [] s e1 s1 ∧ (match e1 with
    | .ret r => (match F with
      | .ret k _ _ _ c1 p1 _ => Runs M (Γ.goto c1) p1 (k r) fs s1 e s'
      | .gen g k _ c1 p1 => Runs M (Γ.goto c1) p1 (k (End.ret r).result) fs (s1.setGen g .finished) e s')
    | .susp v g0 l0 k0 c0 p0 fs0 => (match splitAtGen (F :: fs) with
      | none => e = .susp v g0 l0 k0 c0 p0 (fs0 ++ F :: fs) ∧ s' = s1
      | some (pre, (g, k, c1, p1), rest) => Runs M (Γ.goto c1) p1 (k (.yielded v)) rest (s1.setGen g (End.susp v g0 l0 k0 c0 p0 (fs0 ++ pre)).genState) e s'))
def InvR (M : Model) (Γ : Ctx) (p : Pos) (t : Sem Fin) (fs : List Frame) (s : Shared) (e : End) (s' : Shared) : Prop :=
  match fs with
  | [] => Inv0 M Γ p s e s' t
  | F :: fs => Inv1 M Γ p t F fs s e s'
theorem runs_inv {M : Model} {Γ : Ctx} {p : Pos} {t : Sem Fin} {fs : List Frame} {s : Shared} {e : End} {s' : Shared} (h : Runs M Γ p t fs s e s') : InvR M Γ p t fs s e s' := by
  cases h with
  | done => exact ⟨rfl, rfl⟩
  | raise => exact ⟨rfl, rfl⟩
  | again _ h => exact h
  | rule h => exact h
  | «at» h => exact h
  | load ho h => exact ⟨_, ho, h⟩
  | update _ h => exact h
  | loadIfAlive h => exact h
  | point h => exact h
  | alloc h => exact h
  | fresh h => exact h
  | ask h => exact h
  | choose _ h => exact h
  | os h => exact h
  | handled h => exact h
  | genState ho h => exact ⟨_, ho, h⟩
  | stack h => exact h
  | thread h => exact h
  | newGen h => exact h
  | call h1 h2 => exact ⟨_, _, h1, h2⟩
  | callSusp h1 => exact ⟨_, _, h1, rfl, rfl⟩
  | yield => exact ⟨rfl, rfl⟩
  | resumeFresh h1 h2 _ h4 => dsimp only [InvR, Inv0, InvRes]; rw [h1]; exact ⟨_, _, h2, h4⟩
  | resumeSuspended h1 h2 _ h4 => dsimp only [InvR, Inv0, InvRes]; rw [h1]; exact ⟨_, _, h2, h4⟩
  | resumeJustStarted h1 h2 h3 =>
    dsimp only [InvR, Inv0, InvRes]
    rw [h1]
    dsimp only
    split
    · rename_i z
      first | exact absurd (by injection z) h2 | exact absurd rfl h2
    · exact h3
    · rename_i z; cases z
  | resumeThrowFresh h1 h2 => dsimp only [InvR, Inv0, InvRes]; rw [h1]; exact h2
  | resumeRunning h1 h2 => dsimp only [InvR, Inv0, InvRes]; rw [h1]; exact h2
  | resumeFinished h1 h2 => dsimp only [InvR, Inv0, InvRes]; rw [h1]; exact h2
  | segRet h1 h2 => exact ⟨_, _, h1, h2⟩
  | segGen h1 h2 => exact ⟨_, _, h1, h2⟩
  | segSuspOut h0 h1 => exact ⟨_, _, h1, by rw [h0]; exact ⟨rfl, rfl⟩⟩
  | segSuspGen h0 h1 _ h2 => exact ⟨_, _, h1, by rw [h0]; exact h2⟩
theorem runs_det {M : Model} {Γ : Ctx} {p : Pos} {t : Sem Fin} {fs : List Frame} {s : Shared} {e : End} {s' : Shared} (h : Runs M Γ p t fs s e s') : ∀ {e2 : End} {s2 : Shared}, Runs M Γ p t fs s e2 s2 → e = e2 ∧ s' = s2 := by
  induction h with
  | done => intro e2 s2 g; obtain ⟨rfl, rfl⟩ := runs_inv g; exact ⟨rfl, rfl⟩
  | raise => intro e2 s2 g; obtain ⟨rfl, rfl⟩ := runs_inv g; exact ⟨rfl, rfl⟩
  | again _ _ ih => intro e2 s2 g; exact ih (runs_inv g)
  | rule _ ih => intro e2 s2 g; exact ih (runs_inv g)
  | «at» _ ih => intro e2 s2 g; exact ih (runs_inv g)
  | load ho _ ih => intro e2 s2 g; obtain ⟨o, h1, g⟩ := runs_inv g; rw [ho] at h1; cases h1; exact ih g
  | update _ _ ih => intro e2 s2 g; exact ih (runs_inv g)
  | loadIfAlive _ ih => intro e2 s2 g; exact ih (runs_inv g)
  | point _ ih => intro e2 s2 g; exact ih (runs_inv g)
  | alloc _ ih => intro e2 s2 g; exact ih (runs_inv g)
  | fresh _ ih => intro e2 s2 g; exact ih (runs_inv g)
  | ask _ ih => intro e2 s2 g; exact ih (runs_inv g)
  | choose _ _ ih => intro e2 s2 g; exact ih (runs_inv g)
  | os _ ih => intro e2 s2 g; exact ih (runs_inv g)
  | handled _ ih => intro e2 s2 g; exact ih (runs_inv g)
  | genState ho _ ih => intro e2 s2 g; obtain ⟨o, h1, g⟩ := runs_inv g; rw [ho] at h1; cases h1; exact ih g
  | stack _ ih => intro e2 s2 g; exact ih (runs_inv g)
  | thread _ ih => intro e2 s2 g; exact ih (runs_inv g)
  | newGen _ ih => intro e2 s2 g; exact ih (runs_inv g)
  | call _ _ ih1 ih2 =>
    intro e2 s2 g
    obtain ⟨e1, s1, g1, g2⟩ := runs_inv g
    obtain ⟨a, b⟩ := ih1 g1
    subst a
    subst b
    exact ih2 g2
  | callSusp _ ih1 =>
    intro e2 s2 g
    obtain ⟨e1, s1, g1, g2⟩ := runs_inv g
    obtain ⟨a, b⟩ := ih1 g1
    subst a
    subst b
    exact ⟨g2.1.symm, g2.2.symm⟩
  | yield => intro e2 s2 g; obtain ⟨rfl, rfl⟩ := runs_inv g; exact ⟨rfl, rfl⟩
  | resumeFresh h1 _ h3 _ ih1 ih2 =>
    intro e2 s2 g
    have g := runs_inv g
    dsimp only [InvR, Inv0, InvRes] at g
    rw [h1] at g
    obtain ⟨e1, s1, g1, g2⟩ := g
    obtain ⟨a, b⟩ := ih1 g1
    subst a
    subst b
    exact ih2 g2
  | resumeSuspended h1 _ h3 _ ih1 ih2 =>
    intro e2 s2 g
    have g := runs_inv g
    dsimp only [InvR, Inv0, InvRes] at g
    rw [h1] at g
    obtain ⟨e1, s1, g1, g2⟩ := g
    obtain ⟨a, b⟩ := ih1 g1
    subst a
    subst b
    exact ih2 g2
  | resumeJustStarted h1 h2 _ ih =>
    intro e2 s2 g
    have g := runs_inv g
    dsimp only [InvR, Inv0, InvRes] at g
    rw [h1] at g
    dsimp only at g
    split at g
    · rename_i z
      first | exact absurd (by injection z) h2 | exact absurd rfl h2
    · exact ih g
    · rename_i z; cases z
  | resumeThrowFresh h1 _ ih =>
    intro e2 s2 g
    have g := runs_inv g
    dsimp only [InvR, Inv0, InvRes] at g
    rw [h1] at g
    exact ih g
  | resumeRunning h1 _ ih =>
    intro e2 s2 g
    have g := runs_inv g
    dsimp only [InvR, Inv0, InvRes] at g
    rw [h1] at g
    exact ih g
  | resumeFinished h1 _ ih =>
    intro e2 s2 g
    have g := runs_inv g
    dsimp only [InvR, Inv0, InvRes] at g
    rw [h1] at g
    exact ih g
  | segRet _ _ ih1 ih2 =>
    intro e2 s2 g
    obtain ⟨e1, s1, g1, g2⟩ := runs_inv g
    obtain ⟨a, b⟩ := ih1 g1
    subst a
    subst b
    exact ih2 g2
  | segGen _ _ ih1 ih2 =>
    intro e2 s2 g
    obtain ⟨e1, s1, g1, g2⟩ := runs_inv g
    obtain ⟨a, b⟩ := ih1 g1
    subst a
    subst b
    exact ih2 g2
  | segSuspOut h1 _ ih1 =>
    intro e2 s2 g
    obtain ⟨e1, s1, g1, g2⟩ := runs_inv g
    obtain ⟨a, b⟩ := ih1 g1
    subst a
    subst b
    dsimp only at g2
    rw [h1] at g2
    exact ⟨g2.1.symm, g2.2.symm⟩
  | segSuspGen h1 _ _ _ ih1 ih2 =>
    intro e2 s2 g
    obtain ⟨e1, s1, g1, g2⟩ := runs_inv g
    obtain ⟨a, b⟩ := ih1 g1
    subst a
    subst b
    dsimp only at g2
    rw [h1] at g2
    exact ih2 g2
theorem wakes_det {M : Model} {Γ : Ctx} {p : Pos} {g : Nat} {r : Resume} {s : Shared} {a b : GenResult} {s1 s2 : Shared} (h : Wakes M Γ p g r s a s1) (h' : Wakes M Γ p g r s b s2) : a = b ∧ s1 = s2 := by
  unfold Wakes at h h'
  split at h
  · exact h.elim
  · rename_i c hc
    simp only [hc] at h'
    split at h
    · obtain ⟨e, t, x1, _, rfl, rfl⟩ := h
      obtain ⟨e', t', y1, _, rfl, rfl⟩ := h'
      obtain ⟨rfl, rfl⟩ := runs_det x1 y1
      exact ⟨rfl, rfl⟩
    · rename_i hn
      split at h'
      · rename_i q
        first | exact (hn (by injection q)).elim | exact (hn rfl).elim | (cases q; exact (hn rfl).elim)
      · exact ⟨h.1.trans h'.1.symm, h.2.trans h'.2.symm⟩
      · rename_i q; cases q
    · exact ⟨h.1.trans h'.1.symm, h.2.trans h'.2.symm⟩
  · rename_i hc
    simp only [hc] at h'
    obtain ⟨e, t, x1, _, rfl, rfl⟩ := h
    obtain ⟨e', t', y1, _, rfl, rfl⟩ := h'
    obtain ⟨rfl, rfl⟩ := runs_det x1 y1
    exact ⟨rfl, rfl⟩
  · rename_i hc
    simp only [hc] at h'
    exact ⟨h.1.trans h'.1.symm, h.2.trans h'.2.symm⟩
  · rename_i hc
    simp only [hc] at h'
    exact ⟨h.1.trans h'.1.symm, h.2.trans h'.2.symm⟩
theorem wp_two {α : Type} {M : Model} {Γ : Ctx} {Q Q' : α → Pos → Shared → Prop} {E E' : Value → Pos → Shared → Prop} (t : Sem α) : ∀ {p : Pos} {s : Shared}, Sem.wp M Γ t Q E p s → Sem.wp M Γ t Q' E' p s →
    Sem.wp M Γ t (fun a p s => Q a p s ∧ Q' a p s) (fun e p s => E e p s ∧ E' e p s) p s := by
  induction t with
  | pure a => intro p s h h'; exact ⟨h, h'⟩
  | raise e => intro p s h h'; exact ⟨h, h'⟩
  | unsupported _ => intro p s h h'; exact h
  | finish _ => intro p s h h'; exact h
  | rule _ k ih => intro p s h h'; exact ih _ h h'
  | «at» _ k ih => intro p s h h'; exact ih _ h h'
  | load a _ k ih => rintro p s ⟨o, x, h⟩ ⟨o', x', h'⟩; rw [x] at x'; cases x'; exact ⟨o, x, ih _ h h'⟩
  | update a _ f k ih => rintro p s ⟨x, h⟩ ⟨_, h'⟩; exact ⟨x, ih _ h h'⟩
  | loadIfAlive a k ih => intro p s h h'; exact ih _ h h'
  | point _ k ih => intro p s h h'; exact ih _ h h'
  | register _ _ => intro p s h h'; exact h
  | alloc o k ih => intro p s h h'; exact ih _ h h'
  | fresh k ih => intro p s h h'; exact ih _ h h'
  | ask k ih => intro p s h h'; exact ih _ h h'
  | choose src n k ih => rintro p s ⟨x, h⟩ ⟨_, h'⟩; exact ⟨x, ih _ h h'⟩
  | os q _ k ih => intro p s h h'; exact ih _ h h'
  | call c h0 _ _ k ih =>
    rintro p s ⟨r, s1, x, h⟩ ⟨r', s1', x', h'⟩
    obtain ⟨a, b⟩ := runs_det x x'
    cases a
    subst b
    exact ⟨r, s1, x, ih _ h h'⟩
  | handled own k ih => intro p s h h'; exact ih _ h h'
  | genState g k ih => rintro p s ⟨o, x, h⟩ ⟨o', x', h'⟩; rw [x] at x'; cases x'; exact ⟨o, x, ih _ h h'⟩
  | newGen c k ih => intro p s h h'; exact ih _ h h'
  | resume g r _ k ih =>
    rintro p s ⟨a, s1, x, h⟩ ⟨b, s2, x', h'⟩
    obtain ⟨rfl, rfl⟩ := wakes_det x x'
    exact ⟨a, s1, x, ih _ h h'⟩
  | yield => intro p s h h'; exact h
  | stack k ih => intro p s h h'; exact ih _ h h'
  | fork => intro p s h h'; exact h
  | thread k ih => intro p s h h'; exact ih _ h h'
  | await => intro p s h h'; exact h
theorem two {α : Type} {M : Model} {A : Around} {t : Sem α} {Q Q' R : α → Shared → Prop} {E E' : Value → Shared → Prop} {s : Shared} (h : wpAny M A t Q E s) (h' : wpAny M A t Q' E' s) (k : ∀ a s, Q a s → Q' a s → R a s) : wpAny M A t R E s :=
  fun Γ p g => Sem.wp_mono M Γ t (fun a _ s z => k a s z.1 z.2) (fun e _ s z => z.1) p s (wp_two t (h Γ p g) (h' Γ p g))
end L2
namespace L2
open PySem
theorem dict_mapF (f : Array Value → Array Value) (o : Obj) : (Obj.mapFields f o).dict = o.dict := by
  unfold Obj.mapFields
  repeat' split
  all_goals rfl
def TrD (h : Heap) (e : Addr) (d : Option Addr) : Prop := ∃ o vs T oT ts, h.get? e = some o ∧ o.data = .fields vs ∧ (o.dict = d ∧ vs[2]? = some .none) ∧ vs[1]? = some (.ref T) ∧ T ≠ e ∧ h.get? T = some oT ∧ oT.data = .fields ts ∧ 3 < ts.size
section
variable {M : Model} {A : Around} {E : Value → Shared → Prop} {s : Shared} {e : Addr} {dx : Option Addr}
theorem flight_kd (h : TrD s.heap e dx) : wpAny M A (setFlight (.ref e) none) (fun _ s' => TrD s'.heap e dx) E s := by
  obtain ⟨o, vs, T, oT, ts, he, hd, hx, h1, ne, hT, hdT, hz⟩ := h
  unfold setFlight
  refine wpAny_bind (wpAny_field he hd h1 ?_)
  rw [if_pos (by simp)]
  refine wpAny_setField hT hdT hz ?_
  refine ⟨o, vs, T, _, _, (Heap.get?_update_other _ _ ne).trans he, hd, hx, h1, ne, Heap.get?_update_self _ hT (Obj.isFreed_of_fields (Obj.data_mapFields hdT _)), Obj.data_mapFields hdT _, by simpa using hz⟩
theorem entry_kd {base : Heap} {env : Env} {outer : List Env} {L : Addr} {o : Obj} {vs : Array Value} {head : Value} {b : Bool}
    (hfr : A.frames = some (env :: outer)) (hl : s.heap.FunFrames base (env :: outer)) (hf : env.frame = some L) (he : s.heap.get? e = some o) (hd : o.data = .fields vs) (hz : 1 < vs.size) (hx : o.dict = dx) (h2 : vs[2]? = some .none) :
    wpAny M A (do setField (.ref e) 1 (← EntryCells.newEntry head (← frameOf env) .none (rawInt L) .none (← entryPlaceOf L b))) (fun _ s' => TrD s'.heap e dx) E s := by
  have nf : e ∉ (env :: outer).filterMap (·.frame) := fun hm => by
    obtain ⟨_, u, hu, nn⟩ := hl.mem hm
    rw [he] at hu
    cases hu
    exact nn vs hd
  refine wpAny_bind (wpAny_frameOf_fun hfr hl hf fun h1 q1 => ?_)
  refine wpAny_bind (wpAny_entryPlaceOf fun pl hp => ?_)
  unfold EntryCells.newEntry newFields
  refine wpAny_bind (wpAny_newObj_type ?_ (hp.sizeOk5 _ _ _ _ _))
  have e1 : h1.get? e = some o := (q1.2.1 e nf).trans he
  have e2 := fun z => Heap.get?_push_of_some (h := h1) z e1
  refine wpAny_setField (e2 _) hd hz ?_
  have ne : h1.objs.size ≠ e := Nat.ne_of_gt (Heap.lt_size e1)
  have d3 := Obj.data_mapFields hd (·.setIfInBounds 1 (Value.ref h1.objs.size))
  refine ⟨_, _, h1.objs.size, _, _, Heap.get?_update_self _ (e2 _) (Obj.isFreed_of_fields d3), d3, ⟨(dict_mapF _ _).trans hx, by rw [Array.getElem?_setIfInBounds_ne (by decide)]; exact h2⟩, by simp [hz], ne, (Heap.get?_update_other _ _ (Ne.symm ne)).trans (Heap.get?_push_size h1 rfl), rfl, ?_⟩
  simp only [List.size_toArray, List.length_append, List.length_cons, List.length_nil]
  omega
theorem note_first {base : Heap} {env : Env} {outer : List Env} {L : Addr} {o : Obj} {vs : Array Value}
    (hfr : A.frames = some (env :: outer)) (hl : s.heap.FunFrames base (env :: outer)) (hf : env.frame = some L) (he : s.heap.get? e = some o) (hd : o.data = .fields vs) (h1 : vs[1]? = some .none) (hx : o.dict = dx) (h2 : vs[2]? = some .none) :
    wpAny M A (noteFrame (.ref e) env) (fun _ s' => TrD s'.heap e dx) E s := by
  unfold noteFrame
  simp only [hf]
  refine wpAny_bind (wpAny_field he hd h1 ?_)
  rw [if_neg (by decide)]
  exact entry_kd hfr hl hf he hd (Array.getElem?_eq_some_iff.mp h1).1 hx h2
theorem note_next {base : Heap} {env : Env} {outer : List Env} {L : Addr} {C a0 : Value}
    (hfr : A.frames = some (env :: outer)) (hf : env.frame = some L) (hw : Heap.FlyingW base (env :: outer) e C a0 s.heap) (hx : TrD s.heap e dx) :
    wpAny M A (noteFrame (.ref e) env) (fun _ s' => TrD s'.heap e dx) E s := by
  obtain ⟨f1, f2, f3, oe, vs, T, oT, ts, he, _, hd, h1, hnT, ne, hT, hdT, h3⟩ := hw
  obtain ⟨o', vs', _, _, _, he', hd', ⟨hx, h2⟩, _⟩ := hx
  rw [he] at he'
  cases he'
  rw [hd] at hd'
  cases hd'
  unfold noteFrame
  simp only [hf]
  refine wpAny_bind (wpAny_field he hd h1 ?_)
  rw [if_pos (by simp)]
  refine wpAny_bind (wpAny_field hT hdT h3 ?_)
  rw [if_neg (show ¬ ((Value.none == rawInt L) = true) from by simp [rawInt])]
  refine wpAny_bind (wpAny_setField hT hdT (Array.getElem?_eq_some_iff.mp h3).1 ?_)
  have oth : ∀ b, b ≠ T → (s.heap.update T (Obj.mapFields (·.setIfInBounds 3 Value.none))).get? b = s.heap.get? b := fun b hb => Heap.get?_update_other _ _ (Ne.symm hb)
  refine entry_kd (base := base) hfr (f3.of_keeps fun b o hb hn => ⟨o, (oth b fun q => ?_).trans hb, rfl⟩) hf ((oth e (Ne.symm ne)).trans he) hd (Array.getElem?_eq_some_iff.mp h1).1 hx h2
  rw [q, hT] at hb
  cases hb
  exact hn ts hdT
end
end L2
namespace L2
open PySem
abbrev tupO (xs : List Value) : Obj := { cls := .type "tuple", data := .seq xs.toArray }
abbrev excO (C t : Addr) : Obj := { cls := .ref C, data := .fields #[.ref t, .none, .none, .none, .bool false, .none] }
section
variable {prog : Program} {w : World} {A : Around} {E : Value → Shared → Prop} {h : Heap} {g : Array GenState} {d : Drawn} {t : Nat} {os : OsState}
variable {nm q : Str} {C N : Addr} {bs bm bmB : List Value} {hdct : Bool} {sn : List Str} {sub : List Value} {ab : Bool} {col : Option Bool} {dd : Option Addr} {k0 k1 k2 k3 k5 : Option Value} {B newId initId : String}
theorem call_init (F : ExcBaseFacts B newId initId bmB) (T : OwnTail h bmB bm) {xs : List Value} {f : Addr} {Q : Value → Shared → Prop}
    (hC : h.get? C = some (excClassObj nm q C N bs bm hdct sn sub ab col dd k0 k1 k2 k3 k5 newId)) (hi : PySem.W.Looks (model prog w) h (typeLookup (.ref C) "__init__") (some (.ref f))) (hf : PySem.W.Looks (model prog w) h (typeOf (.ref f)) (.type "function")) (hl : xs.length ≤ sizeLine)
    (k : wpAny (model prog w) (A.under (.builtin "type.__call__" ⟨.ref C :: xs, []⟩)) (call (.ref f) (.ref (h.objs.size + 1) :: xs)) (fun r s' => r = .none ∧ Q (.ref (h.objs.size + 1)) s') E ⟨(h.push (tupO xs)).push (excO C h.objs.size), g, d, t, os⟩) :
    wpAny (model prog w) A (call (.ref C) xs) Q E ⟨h, g, d, t, os⟩ := by
  have z1 := tc_lookup
  have z2 := tc_bind (.ref C)
  have z3 : (⟨h, g, d, t, os⟩ : Shared).TypeIs (.ref C) "type" := ⟨_, hC, rfl⟩
  refine wpAny_call (codeAny_of_tree ?_)
  show wpAny _ _ (callAny (.ref C) _) _ _ _
  repeat (any_goals (first | assumption | with_reducible refine wpAny_loadPart_at hC ?_ | wp_step))
  refine ⟨rfl, codeAny_call_builtin_at (Code.quiet_builtin _ (by decide +kernel)) entry_typeCall (wpAny_check_type_call_sub hC ?_)⟩
  show wpAny _ (A.under (.builtin "type.__call__" ⟨.ref C :: xs, []⟩)) (Builtin.«type.__call__» ⟨.ref C :: xs, []⟩) _ _ _
  repeat (first | with_reducible refine wpAny_loadPart_at hC ?_ | with_reducible refine wpAny_madeBy_exc hC ?_ | wp_step)
  refine codeAny_call_builtin_code (Code.quiet_builtin _ F.quiet) (wpAny_check_new_subT F T hC (codeAny_exc_new_subT F T hC ?_ hl))
  show wpAny _ _ _ _ _ _
  have up : ∀ b o, h.get? b = some o → ((h.push (tupO xs)).push (excO C h.objs.size)).get? b = some o := fun b o x => Heap.get?_push_of_some _ (Heap.get?_push_of_some _ x)
  have hC1 := up _ _ hC
  have hg : ((h.push (tupO xs)).push (excO C h.objs.size)).get? (h.objs.size + 1) = some ⟨.ref C, none, .fields #[.ref h.objs.size, .none, .none, .none, .bool false, .none], #[]⟩ := by
    have := Heap.get?_push_size (h.push (tupO xs)) (o := excO C h.objs.size) rfl
    rwa [Heap.size_push] at this
  have cc : (Value.ref C :: bm).contains (.ref C) = true := by simp
  unfold isInstance
  repeat (first | with_reducible refine wpAny_loadPart_at hg ?_ | (with_reducible refine wpAny_isSubtype_exc hC1 ?_; rw [cc]) | wp_step)
  show wpAny _ _ (typeLookup (.ref C) _) _ _ _
  refine hi _ _ _ _ up ?_
  refine wpAny_holding (wpAny_bind ?_)
  unfold bindSpecial
  refine wpAny_bind (hf _ _ _ _ up ?_)
  rw [if_pos (by decide)]
  refine wpAny_pure (wpAny_bind (wpAny_mono k (fun r s' hr => ?_) fun _ _ x => x))
  obtain ⟨rfl, z⟩ := hr
  wp_walk
  exact z
theorem raise_made {M : Model} {s : Shared} {env : Env} {x : Sem Value} {Q : Flow → Shared → Prop} (hb : bm.contains (.type "BaseException") = true) (hh : A.handled = none)
    (k : wpAny M A x (fun v s1 => ∃ e o vs, v = .ref e ∧ s1.heap.get? C = some (excClassObj nm q C N bs bm hdct sn sub ab col dd k0 k1 k2 k3 k5 newId) ∧ s1.heap.get? e = some o ∧ o.cls = .ref C ∧ o.data = .fields vs ∧ vs[1]? = some .none ∧ E (.ref e) s1) E s) :
    wpAny M A (raiseStmt env (some x) none) Q E s := by
  have cb : (Value.ref C :: bm).contains (.type "BaseException") = true := by rw [List.contains_cons, hb, Bool.or_true]
  unfold raiseStmt
  refine wpAny_bind (wpAny_mono k (fun v s1 z => ?_) fun _ _ x => x)
  obtain ⟨e, o, vs, rfl, hC, he, hc, hd, h1, hE⟩ := z
  obtain ⟨hp, g, d, tk, os⟩ := s1
  refine wpAny_bind (wpAny_pure ?_)
  unfold excFromValue isExcClass isInstance raisedInstance setFlight
  repeat (first | (with_reducible refine wpAny_loadPart_at he ?_; rw [hc]) | with_reducible refine wpAny_field he hd h1 ?_ | with_reducible refine wpAny_loadPart_at hC ?_ | (with_reducible refine wpAny_isSubtype_exc hC ?_; rw [cb]) | wp_step)
  exact wpAny_raiseNew_none hh hE
end
end L2
namespace L2
open PySem PySem.Spec PyProof.Rows PySem.W PySem.Builtin PySem.Builtin.ObjectAttr
def ExcN (e C : Addr) : HO := .ext fun h => ∃ t, h.get? e = some (excO C t)
def ExcF (e C dx : Addr) : HO := .ext fun h => ∃ o vs a0, h.get? e = some o ∧ o.cls = .ref C ∧ o.data = .fields vs ∧ vs[0]? = some a0 ∧ vs[1]? = some .none ∧ (o.dict = some dx ∧ vs[2]? = some .none)
def ExcD (e C : Addr) (d : Option Addr) : HO := .ext fun h => ∃ o vs, h.get? e = some o ∧ o.cls = .ref C ∧ o.data = .fields vs ∧ (o.dict = d ∧ vs[2]? = some .none)
structure XI (K : Frag) (C D f : Addr) : Prop where
  ob : ∃ dd nm bs ns qn sn sub ab col k0 k1 k2 k3 k5, K.lookup C = some ⟨.type "type", dd, .cls ⟨nm, bs, .ref C :: .ref D :: mroV, ns, qn, true, sn, sub, ab, col, false⟩, #[k0, k1, k2, k3, some (.builtin "ValueError.__new__"), k5]⟩
  up : excIn K D mroV "ValueError.__new__" = true
  ini : findIn K (.ref C) "__init__" = some (some (.ref f))
  fn : isFn K (.ref f) = true
  sa : findIn K (.ref C) "__setattr__" = some (some (.builtin "object.__setattr__"))
  kp : keepIn K (.ref C) = true
  rd : readsIn K D (.type "type") = true
  fc : findCls K (.ref D) (.type "type") "__init__" = some (.val (.builtin "ValueError.__init__"))
  sg : specialIn K (.ref D) "__getattribute__" = some (some (.builtin "type.__getattribute__"))
section
variable {K : Frag} {C D f : Addr} {h : Heap}
theorem XI.obj (x : XI K C D f) (Z : K.In h) : ∃ nm qn ns bs sn sub ab col dd k0 k1 k2 k3 k5, h.get? C = some (excClassObj nm qn C ns bs (.ref D :: mroV) true sn sub ab col dd k0 k1 k2 k3 k5 "ValueError.__new__") := by
  obtain ⟨dd, nm, bs, ns, qn, sn, sub, ab, col, k0, k1, k2, k3, k5, e⟩ := x.ob
  exact ⟨nm, qn, ns, bs, sn, sub, ab, col, dd, k0, k1, k2, k3, k5, Z _ _ e⟩
theorem XI.cls (x : XI K C D f) : ∃ cd, clsIn K C = some cd ∧ cd.mro = .ref C :: .ref D :: mroV ∧ cd.hasDict = true := by
  obtain ⟨dd, nm, bs, ns, qn, sn, sub, ab, col, k0, k1, k2, k3, k5, e⟩ := x.ob
  exact ⟨⟨nm, bs, .ref C :: .ref D :: mroV, ns, qn, true, sn, sub, ab, col, false⟩, by unfold clsIn; rw [e], rfl, rfl⟩
theorem XI.tail (x : XI K C D f) (Z : K.In h) : OwnTail h mroV (.ref D :: mroV) := by
  obtain ⟨bm, N, nm, qn, bs, hdct, sn, sub, ab, col, dd, k0, k1, k2, k3, k5, mN, hC, hN, hni, T⟩ := exc_obj Z x.up
  exact .own hC hN hni .base
theorem XI.top (x : XI K C D f) : mroIn K C (.type "object") = some true := by
  obtain ⟨cd, a, b, c⟩ := x.cls
  unfold mroIn
  rw [a, Option.bind_some, b]
  rfl
end
section
variable {prog : Program} {w : World} {A : Around} {E : Value → Shared → Prop} {s : Shared} {K : Frag} {C D f e : Addr}
theorem set_exc {o : Obj} {vs : Array Value} {n : Str} {v : Value} {Q : Unit → Shared → Prop} (Z : K.In s.heap) (x : XI K C D f) (ho : s.heap.get? e = some o) (hc : o.cls = .ref C) (hv : o.data = .fields vs) (hn : o.dict = none) (na : NoAttr K C n)
    (k : ∀ h' t', h'.get? e = some { o with dict := some s.heap.objs.size } → h'.Ns1 s.heap.objs.size (fun y => if y = n then some v else none) → (∀ b u, b ≠ e → s.heap.get? b = some u → h'.get? b = some u) → Q () { s with heap := h', toks := t' }) :
    wpAny (model prog w) A (setAttr (.ref e) n v) Q E s := by
  obtain ⟨cd, c1, c2, c3⟩ := x.cls
  have I : InstAt s.heap e o C none := ⟨ho, hc, by unfold notCls; rw [hv], by rw [hn]; trivial⟩
  have SF := F.store_object
  have sub : Looks (model prog w) s.heap (isInstance (.ref e) (.type "object")) true := I.type.andThen (looks_mroIn Z x.top)
  have hm : Looks (model prog w) s.heap (mroOf (.ref C)) cd.mro := (looks_clsIn Z c1).andThen .now
  refine set_plain Z I x.sa (codeAny_call_builtin SF.slot.plain SF.entry (check_slot (s := { s with toks := s.toks + 1 }) (i := "object.__setattr__") (owner := "object") (n := "__setattr__") (self := .ref e) (rest := [.str n s.toks, v]) (kw := []) SF.kind SF.split sub (SF.args _ _ _) ?_))
  rw [osa_eq, refuse_eq]
  refine wpAny_bind (wpAny_bind (Looks.here (s := { s with toks := s.toks + 1 }) I.type (wpAny_bind (Looks.here (s := { s with toks := s.toks + 1 }) hm ?_))))
  rw [c2, refuseLoop_ref, refuseLoop_ref, F.store_ValueError.passes]
  refine wpAny_pure (wpAny_bind (Looks.here (s := { s with toks := s.toks + 1 }) I.type (wpAny_bind (Looks.here (s := { s with toks := s.toks + 1 }) (looks_findIn Z na) (wpAny_bind (wpAny_pure ?_))))))
  show wpAny _ _ (storeInOwnDict (.ref e) (.ref C) _ n v _) _ _ _
  refine wpAny_bind (wpAny_pure (wpAny_bind (wpAny_bind (wpAny_loadPart ho ?_))))
  rw [hc]
  refine wpAny_bind (Looks.here (s := { s with toks := s.toks + 1 }) (looks_clsIn Z c1) ?_)
  rw [c3, hn]
  have ho1 : (s.heap.push { cls := .type "dict", data := .dict #[] }).get? e = some o := Heap.get?_push_of_some _ ho
  have ne : e ≠ s.heap.objs.size := Nat.ne_of_lt (Heap.lt_size ho)
  rw [hv]
  refine wpAny_bind (wpAny_alloc' (wpAny_bind (wpAny_update' ho1 (wpAny_pure ?_))))
  have hg : ((s.heap.push { cls := .type "dict", data := .dict #[] }).update e fun o => { cls := o.cls, dict := some s.heap.objs.size, data := o.data, slots := o.slots }).get? s.heap.objs.size = some { cls := .type "dict", data := .dict #[] } :=
    (Heap.get?_update_ne _ _ _ _ ne.symm).trans (Heap.get?_push_at rfl rfl)
  have hN : ((s.heap.push { cls := .type "dict", data := .dict #[] }).update e fun o => { cls := o.cls, dict := some s.heap.objs.size, data := o.data, slots := o.slots }).Ns s.heap.objs.size (fun _ => none) :=
    ⟨_, #[], _, hg, rfl, fun e he => absurd he (by simp), fun _ => rfl⟩
  show wpAny _ _ (storeInDict s.heap.objs.size _ n v) _ _ _
  unfold storeInDict newKeyGuard
  refine wpAny_bind (wpAny_pure (wpAny_bind (wpAny_nsSet1 (Heap.Ns1.of_empty hN) fun h' n1 s1 => ?_)))
  obtain ⟨oD, esD, epD, hoD, hdD, hcD⟩ := n1.count (Within.cons n v Within.nil)
  refine wpAny_bind (wpAny_lookBehind hoD (by rw [hdD]; exact pastItsLine_dict (Nat.le_trans hcD (by rw [List.length_cons, List.length_nil, sizeLine_eq]; omega))) ?_)
  refine wpAny_pure (k h' _ ?_ n1 fun b u hb q => ?_)
  · refine (s1.2 e ne).trans (Heap.get?_update_self _ ho1 ?_)
    have fr := (Heap.get?_some_iff.mp ho).2
    obtain ⟨oc, od, odt, osl⟩ := o
    cases hv
    rfl
  · exact (s1.2 b (Nat.ne_of_lt (Heap.lt_size q))).trans ((Heap.get?_update_ne _ _ _ _ hb).trans (Heap.get?_push_of_some _ q))
theorem base_init {t : Addr} {u : Value} {Q : Value → Shared → Prop} (Z : K.In s.heap) (x : XI K C D f) (ho : s.heap.get? e = some (excO C t))
    (k : ∀ h' t', h'.get? e = some (excO C t') → (∀ b u, b ≠ e → s.heap.get? b = some u → h'.get? b = some u) → Q .none { s with heap := h' }) :
    wpAny (model prog w) A (call (.builtin "ValueError.__init__") [.ref e, u]) Q E s := by
  obtain ⟨nm, qn, ns, bs, sn, sub, ab, col, dd, k0, k1, k2, k3, k5, hC⟩ := x.obj Z
  have T := x.tail Z
  have B := F.excBase_ValueError
  obtain ⟨h, g, d, tk, os⟩ := s
  have ho' : h.get? e = some ⟨.ref C, none, .fields #[.ref t, .none, .none, .none, .bool false, .none], #[]⟩ := ho
  refine wpAny_call (codeAny_call_builtin B.init.plain B.initEntry (wpAny_check_init_subT B T hC ho' rfl ?_))
  wp_walk
  refine k _ h.objs.size ?_ fun b u hb q => ?_
  · rw [Heap.get?_update_self _ (Heap.get?_push_of_some _ ho') rfl]
    rfl
  · rw [Heap.get?_update_other _ _ (Ne.symm hb)]
    exact Heap.get?_push_of_some _ q
theorem get_exc {o : Obj} {vs : Array Value} {n : Str} {v : Value} {dx : Addr} {m : Str → Option Value} {Q : Value → Shared → Prop} {b : Bool} (Z : K.In s.heap) (ask : Asks K C) (hd : hasDictIn K C = true) (na : NoAttr K C n) (ho : s.heap.get? e = some o) (hc : o.cls = .ref C) (hv : o.data = .fields vs) (hx : o.dict = some dx) (hN : s.heap.Ns dx m)
    (hm : m n = some v) (hh : handedIn v = true) (k : Q v { s with toks := s.toks + 1 }) : wpAny (model prog w) A (getAttr (.ref e) n b) Q E s := by
  obtain ⟨hp, gn, dr, tt, oo⟩ := s
  have p : ExcAt e C hp := ⟨o, vs, ho, hc, hv⟩
  have T0 := p.ty (M := model prog w)
  have T1 := looks_findIn (M := model prog w) Z ask.ga
  have T2 := looks_findIn (M := model prog w) Z ask.gt
  have hb := F.attr_ValueError.ga.bind (.ref e)
  have hx1 : (onTheHeap (Value.ref C) && Value.builtin "BaseException.__getattribute__" == Value.builtin "object.__getattribute__") = false := by
    rw [show (Value.builtin "BaseException.__getattribute__" == Value.builtin "object.__getattribute__") = false by decide +kernel]
    rfl
  obtain ⟨cd, c1, c3⟩ := any_some hd
  have L3 : Looks (model prog w) hp (find (.ref e) (.ref C) n) (.value v) := by
    refine (looks_findIn (M := model prog w) Z na).andThen (Looks.now.andThen (Looks.now.andThen ?_))
    have L4 : Looks (model prog w) hp (inOwnDict n (.ref e)) (some v) := by
      intro A' Q' E' s' kp z
      unfold inOwnDict ObjectAttr.ownDict loadHead
      refine wpAny_bind (wpAny_bind (wpAny_loadPart (kp _ _ ho) ?_))
      rw [hv]
      unfold instanceDict
      refine wpAny_bind (wpAny_loadPart (kp _ _ ho) ?_)
      rw [hc]
      refine wpAny_bind (looks_clsIn Z c1 A' _ E' s' kp ?_)
      rw [c3, hx]
      refine wpAny_pure ?_
      exact wpAny_nsGet (hN.keeps kp) (by rw [hm]; exact z)
    exact L4.andThen (Looks.tag .now)
  unfold getAttr getAttrBy
  refine wpAny_bind (wpAny_mkText (wpAny_holding (wpAny_bind (T0.at (wpAny_bind (T1.at ?_))))))
  simp only [hx1, Bool.false_eq_true, if_false]
  unfold getAttrByItsOwn
  refine wpAny_bind (show wpAny _ _ (typeLookup (.ref C) "__getattr__") _ _ _ from T2.at ?_)
  refine wpAny_bind (wpAny_attempt (wpAny_holding ?_))
  unfold callGetattribute
  rw [show (b && onTheHeap (Value.builtin "BaseException.__getattribute__")) = false from Bool.and_false _, if_neg (by decide)]
  unfold boundAndCalled
  rw [hb]
  refine wpAny_bind (wpAny_pure (wpAny_call (codeAny_call_builtin F.attr_ValueError.ga.plain F.entry_bexc_ga (ask.check (s := ⟨hp, gn, dr, tt + 1, oo⟩) Z p ?_))))
  unfold Builtin.«object.__getattribute__»
  repeat (first | (with_reducible refine Looks.at (by assumption) ?_) | wp_step)
  exact handed_on hh k
end
end L2
namespace L2
open PySem PySem.Spec PyProof.Rows
theorem upd_id {H : Hp} {a : Addr} {o : HO} (h : H a = some o) : upd H a o = H := by
  funext b
  unfold upd
  split
  · rename_i z; rw [z, h]
  · rfl
theorem upd_comm {H : Hp} {a b : Addr} {o u : HO} (n : a ≠ b) : upd (upd H a o) b u = upd (upd H b u) a o := by
  funext c
  unfold upd
  by_cases h1 : c = a
  · subst h1
    rw [if_neg n, if_pos rfl, if_pos rfl]
  · by_cases h2 : c = b
    · subst h2
      rw [if_pos rfl, if_neg h1, if_pos rfl]
    · rw [if_neg h2, if_neg h1, if_neg h1, if_neg h2]
theorem callWith_blt {M : Model} {A : Around} {E : Value → Shared → Prop} {s : Shared} {env : Env} {pos : Pos} {id : String} {first : List Value} {e : Expr} {rest : List Expr} {Q : Value → Shared → Prop} (h : wpAny M A (spliced (backTo pos (starEach (e :: rest) env))) (fun vs s1 => wpAny M A (call (.builtin id) (first ++ vs)) Q E s1) E s)
    (he : starEach (e :: rest) env = (false, eval e env) :: starEach rest env) (hp : (backTo pos (starEach rest env)).any (·.1) = false) : wpAny M A (callWith pos (.builtin id) first (backTo pos (starEach (e :: rest) env)) []) Q E s := by
  rw [he] at h ⊢
  refine PySem.W.callWith_of (P := fun _ => True) ?_ (fun h _ => ⟨.machine, .inr (.inl rfl), .now⟩) (Calls.evalArgs_plain (thn h fun _ _ z => ⟨trivial, z⟩))
  show ((false || (backTo pos (starEach rest env)).any (·.1)) || false) = false
  rw [hp]
  rfl
def tBase (C : Addr) (ta : TA) : TE := fun σ H Q => ta σ H fun vs H1 => ∃ e u, vs = [.ref e, u] ∧ H1 e = some (ExcN e C) ∧ Q .non H1
def sFldX (C : Addr) (n : Str) (ta tv : TE) : TS := fun D σ H => tv σ H fun y H1 => ta σ H1 fun x H2 => ∃ e, x = .ref e ∧ H2 e = some (ExcN e C) ∧ ∀ dx, H2 dx = none → dx ≠ e → D.nx σ (upd (upd H2 e (ExcF e C dx)) dx (.xd [(n, y)]))
section
variable {X : Cx} {C D f : Addr} {x n : Str} {np apos pos cpos : Pos} {e1 o v : Expr} {es : List Expr} {ta : TA} {to tv : TE}
theorem pe_base {pl : Sem Bool} (hg : Gl X x) (hm : X.mg x = some (.ref D)) (xi : XI X.K C D f) (ha : PA X (e1 :: es) ta) (hdb : (x == ("__debug__" : Str)) = false := by decide)
    (hst : starEach (e1 :: es) X.env = (false, eval e1 X.env) :: starEach es X.env := by rfl) (hpl : (backTo pos (starEach es X.env)).any (·.1) = false := by rfl)
    (ht : eval (.Call (.Attribute (.Name x np) "__init__" apos) (e1 :: es) [] pos) X.env = (do
      let ov ← eval (.Name x np) X.env
      standAt apos.atName
      let (f, first) ← holding [ov] (getMethod ov "__init__" pl)
      callWith pos f first (backTo pos (starEach (e1 :: es) X.env)) (backToKw pos (keywordEach [] X.env))) := by rfl) :
    PE X (.Call (.Attribute (.Name x np) "__init__" apos) (e1 :: es) [] pos) (tBase C ta) := by
  intro pins s σ H Q I h
  refine PySem.W.methodCall_KW (pl := pl) (ld_glob I hg hm ?_ hdb) ht
  refine PySem.W.method_cls I.kIn xi.sg (PySem.W.cls_value I.kIn xi.rd xi.fc rfl ?_)
  refine callWith_blt (first := []) (thn (ha pos pins _ σ H _ (I.tok (s.toks + 1)) h) fun us s2 ⟨vs, H2, I2, r, q⟩ => ?_) hst hpl
  obtain ⟨e, u, rfl, he, q⟩ := q
  cases r with
  | cons r1 rr => cases rr with
    | cons r2 rr =>
      cases rr
      cases r1
      obtain ⟨⟨t, ho⟩, _, _⟩ := I2.hok e _ he
      refine base_init I2.kIn xi ho fun h' t' g1 g2 => ⟨.non, H2, ?_, rfl, q⟩
      have J := I2.write (x := e) (e := e) (o := ExcN e C) (t' := s2.toks) (by rw [he]; exact True.intro) (.inl rfl) g2 ⟨_, g1⟩ ⟨⟨t', g1⟩, ⟨_, g1⟩, fun h1 h2 ⟨t, q⟩ k => ⟨t, k _ q⟩⟩
      rw [upd_id he] at J
      exact J
theorem ps_fldX (hex : X.ex = []) (xi : XI X.K C D f) (na : NoAttr X.K C n) (ho : PE X o to) (hv : PE X v tv) (hs : swapsWith v (some (.Attribute o n apos)) pos.line X.env = pure false := by rfl) : PS X (.Assign [.Attribute o n apos] v pos) (sFldX C n to tv) := by
  intro pins s σ H E I h
  refine plainObj_wpAny_Assign_Attribute (thn (hv pins s σ H _ I h) fun u s1 ⟨y, H1, I1, ry, q1⟩ => thn (ho pins s1 σ H1 _ I1 q1) fun ov s2 ⟨z, H2, I2, rx, e, ex, hx, q2⟩ => ?_) hs
  subst ex
  obtain rfl : ov = Value.ref e := rx
  obtain ⟨⟨t, he⟩, _, _⟩ := I2.hok e _ hx
  have lt := Heap.lt_size he
  have fr : H2 s2.heap.objs.size = none := I2.hok.fresh (Nat.le_refl _)
  refine set_exc I2.kIn xi he rfl rfl rfl na fun h' t' g1 g2 g3 => ⟨σ, _, ?_, q2 s2.heap.objs.size fr (Nat.ne_of_gt lt)⟩
  have J := I2.write (x := e) (e := e) (o := ExcF e C s2.heap.objs.size) (t' := t') (by rw [hx]; exact True.intro) (.inl rfl) g3 ⟨_, g1⟩ ⟨⟨_, _, _, g1, rfl, rfl, rfl, rfl, rfl, rfl⟩, ⟨_, g1⟩, fun h1 h2 ⟨o, vs, a0, q, r⟩ k => ⟨o, vs, a0, k _ q, r⟩⟩
  have old : ∀ {b : Addr} {u : Obj}, s2.heap.get? b = some u → b ≠ s2.heap.objs.size := fun q => Nat.ne_of_lt (Heap.lt_size q)
  refine J.track (by rw [upd_ne (Nat.ne_of_gt lt)]; exact fr) ?_ (fun z => ?_) (fun y c q z => ?_) (fun p hp z => ?_) ⟨_, g2, fun g => ?_⟩
  · cases q : X.s₀.heap.get? s2.heap.objs.size with
    | none => rfl
    | some u =>
      obtain ⟨u', q'⟩ := I2.base.there _ u q (by rw [hex]; simp)
      exact absurd rfl (old q')
  · obtain ⟨m, ⟨u, _, _, hu, _⟩, _⟩ := I2.loc
    exact old hu z.symm
  · obtain ⟨v, u, hu, _⟩ := I2.cell y c q
    exact old hu z
  · exact old (I2.pin p hp).1 z
  · show RelO ([(n, y)].lookup g) (if g = n then some u else none)
    by_cases q : g = n
    · have hb : (g == n) = true := beq_iff_eq.mpr q
      rw [if_pos q]
      simp only [List.lookup, hb]
      exact ry
    · have hb : (g == n) = false := beq_eq_false_iff_ne.mpr q
      rw [if_neg q]
      simp only [List.lookup, hb]
      exact True.intro
end
def spI (C : Addr) (n : Str) : Sp := fun vs H Q _ => ∃ e v, vs = [.ref e, v] ∧ H e = some (ExcN e C) ∧ ∀ dx, H dx = none → dx ≠ e → Q .non (upd (upd H e (ExcF e C dx)) dx (.xd [(n, v)]))
def CXD (P : Program) (w : World) : CXT := fun outer H s E e s' => ∃ x C d H', e = .ref x ∧ Flies P w outer H s x C H' s' ∧ TrD s'.heap x d ∧ E (.ref C) (some x) (upd H' x (ExcD x C d))
def RaiserD (X : Cx) (E : XK) : Prop := ∀ (pins : List (Addr × Obj)) (σ : St) (H1 : Hp) (s1 : Shared) (e C dx : Addr), Inv X pins σ H1 s1 → X.s₀.heap.get? e = none → H1 e = some (ExcF e C dx) → E (.ref C) (some e) (upd H1 e (ExcD e C (some dx))) → X.xe (.ref e) s1
def del (H : Hp) (e : Addr) : Hp := fun b => if b = e then none else H b
theorem del_ne {H : Hp} {e b : Addr} (h : b ≠ e) : del H e b = H b := if_neg h
theorem upd_del {H : Hp} {e : Addr} {o : HO} : upd (del H e) e o = upd H e o := by
  funext b
  unfold upd del
  split
  · rfl
  · rfl
section
variable {P : Program} {w : World} {K : PySem.W.Frag} {mg : Str → Option Value} {base : Heap} {N : List Str} {qual : Str} {sc : Scope} {f : Addr} {cd : Value} {A : Around} {outer : List Env} {s : Shared} {H : Hp} {E : XK}
theorem raiserD_of : RaiserD (cxOf (CXD P w) P w K mg base N qual sc f cd A outer s H E) E := by
  intro pins σ H1 s1 e C dx I h00 he hE
  show wpAny (model P w) (A.deeper (envOfC qual sc s.heap.objs.size f cd)) (leaving (envOfC qual sc s.heap.objs.size f cd) (.ref e)) _ _ _
  obtain ⟨⟨o, vs, a0, ho, hc, hd, h0, h1, hx, hq2⟩, _, _⟩ := I.hok e _ he
  generalize hL : frs (envOfC qual sc s.heap.objs.size f cd :: outer) = L
  have hin : ∀ env ∈ (envOfC qual sc s.heap.objs.size f cd :: outer), ∀ a, env.frame = some a → a ∈ e :: L := fun env z a q => List.mem_cons_of_mem _ (hL ▸ in_frs env z a q)
  have FF : s1.heap.FunFrames (PySem.W.hideAll s1.heap (e :: L)) (envOfC qual sc s.heap.objs.size f cd :: outer) := PySem.W.funFrames_hide I.stack hin
  have hen : (PySem.W.hideAll s1.heap (e :: L)).get? e = none := PySem.W.hideAll_none _ (List.mem_cons_self)
  have hne : ∀ b o, s.heap.get? b = some o → b ≠ e := fun b o q z => by subst z; rw [show (cxOf (CXD P w) P w K mg base N qual sc f cd A outer s H E).s₀ = s from rfl, q] at h00; cases h00
  have hLn : ∀ b o, s.heap.get? b = some o → b ∉ frs outer → b ∉ e :: L := fun b o q hb z => by
    rcases List.mem_cons.mp z with z | z
    · exact hne b o q z
    · subst hL
      rcases List.mem_cons.mp (I.stkSub b z) with z | z
      · have lt := Nat.lt_of_lt_of_le (Heap.lt_size q) I.ok.above
        rw [z] at lt
        exact absurd lt (Nat.lt_irrefl _)
      · exact hb z
  have two1 := wpAny_leaving_firstW (M := model P w) (A := A.deeper (envOfC qual sc s.heap.objs.size f cd)) (E := fun e' s'' => CXD P w outer H s E e' s'') (Q := fun _ s2 => ∃ h', s2 = { s1 with heap := h' } ∧ Heap.LeftW (PySem.W.hideAll s1.heap (e :: L)) (envOfC qual sc s.heap.objs.size f cd :: outer) e o.cls a0 s1.heap h')
    I.ok.frames FF rfl ho (fun b u q => PySem.W.of_hideAll _ q) hen hd h1 h0 fun h' z => ⟨h', rfl, z⟩
  have two2 : wpAny (model P w) (A.deeper (envOfC qual sc s.heap.objs.size f cd)) (leaving (envOfC qual sc s.heap.objs.size f cd) (.ref e)) (fun _ s2 => TrD s2.heap e (some dx)) (fun _ _ => True) s1 := by
    unfold leaving
    exact wpAny_bind (wpAny_mono (note_first I.ok.frames FF rfl ho hd h1 hx hq2) (fun _ _ z => flight_kd z) fun _ _ z => z)
  refine two two1 two2 ?_
  rintro _ _ ⟨h2, rfl, k1, ⟨_, _, k2⟩, k3, k4⟩ tr
  rw [hc] at k3
  refine ⟨e, C, some dx, del H1 e, rfl, ⟨I.os, I.bare, ⟨_, _, ⟨k1, hen, k2, k3⟩, fun b u q => ?_, fun b u q n hb => ?_, fun b u q hb => ?_⟩, fun b u q hb => ?_, fun b u q n => ?_, fun b xs q => ?_, fun b u v q => ?_, fun b ps q => ?_, if_pos rfl⟩, tr, by rw [upd_del]; exact hE⟩
  · by_cases hb : b = e
    · subst hb; rw [show del H1 b b = none from if_pos rfl] at q; cases q
    · rw [del_ne hb] at q
      refine (I.hok b u q).stay (fun c v hcc z => PySem.W.hideAll_get _ z fun hm => ?_) (fun c z => ?_) fun c xs z => ?_
      · rcases List.mem_cons.mp hm with rfl | hm
        · rcases hcc with rfl | hcc
          · exact hb rfl
          · rw [he] at hcc; cases hcc
        · subst hL
          have n := I.stkFree c hm
          rcases hcc with rfl | hcc
          · rw [n] at q; cases q
          · rw [n] at hcc; cases hcc
      · have : c ≠ e := fun y => by subst y; rw [he] at z; cases z
        rw [del_ne this]; exact z
      · have : c ≠ e := fun y => by subst y; rw [he] at z; cases z
        rw [del_ne this]; exact z
  · exact PySem.W.hideAll_get _ (I.base.keep b u q n hb (by simp [cxOf])) (hLn b u q hb)
  · obtain ⟨u', q'⟩ := I.base.there b u q (by simp [cxOf])
    exact ⟨u', PySem.W.hideAll_get _ q' (hLn b u q hb)⟩
  · have n0 := I.ok.frf b hb
    obtain ⟨sl, q1⟩ := I.base.slot b u q n0 hb (by simp [cxOf])
    obtain ⟨_, o2, ho2, hd2⟩ := I.ok.funs.mem hb
    have e2 : o2 = u := by
      rw [show (cxOf (CXD P w) P w K mg base N qual sc f cd A outer s H E).s₀ = s from rfl, q] at ho2
      exact (Option.some.inj ho2).symm
    subst e2
    obtain ⟨sl2, q2⟩ := k4 b _ q1 hd2
    exact ⟨sl2, q2⟩
  · rw [del_ne (hne b u q)]; exact I.base.free b u q n (by simp [cxOf])
  · have z := I.base.tups b xs q
    have : b ≠ e := fun y => by subst y; rw [he] at z; cases z
    rw [del_ne this]; exact z
  · have z := I.base.frzs b u v q
    have : b ≠ e := fun y => by subst y; rw [he] at z; cases z
    rw [del_ne this]; exact z
  · obtain ⟨m, z⟩ := I.base.tbls b ps q
    have : b ≠ e := fun y => by subst y; rw [he] at z; cases z
    exact ⟨m, by rw [del_ne this]; exact z⟩
end
def tRaiseI (C : Addr) (n : Str) (E : XK) (ta : TA) : TS := fun _ σ H => ta σ H fun vs H1 => ∃ v, vs = [v] ∧ ∀ e dx, H1 e = none → H1 dx = none → dx ≠ e → E (.ref C) (some e) (upd (upd H1 e (ExcD e C (some dx))) dx (.xd [(n, v)]))
section
variable {X : Cx} {E : XK} {C D f : Addr} {x n : Str} {np cpos pos : Pos} {e₀ : Expr} {rest : List Expr} {ta : TA} {k : Nat} {fd : FuncData} {ps : List Str}
theorem ps_raiseI (R : RaiserD X E) (hc : X.calm = true) (hex : X.ex = []) (hg : Gl X x) (hm : X.mg x = some (.ref C)) (xi : XI X.K C D f) (Fn : FnOk X.prog X.w X.K X.mg X.base CX0 k f fd ps (spI C n)) (hr : Room (k + 1) X.A) (hb : Binds X.K fd ps []) (ha : PA X (e₀ :: rest) ta)
    (he : starEach (e₀ :: rest) X.env = (false, eval e₀ X.env) :: starEach rest X.env := by rfl) (hpl : (backTo cpos (starEach rest X.env)).any (·.1) = false := by rfl) (hdb : (x == ("__debug__" : Str)) = false := by decide) :
    PS X (.Raise (some (.Call (.Name x np) (e₀ :: rest) [] cpos)) none pos) (tRaiseI C n E ta) := by
  intro pins s σ H D' I h
  obtain ⟨nm, qn, ns, bs, sn, sub, ab, col, dd, k0, k1, k2, k3, k5, hC⟩ := xi.obj I.ok.mod.kin
  rw [arm_exec_Raise]
  refine wpAny_bind (wpAny_standAt ?_)
  simp only [evalOpt, Option.map]
  refine raise_made (C := C) (nm := nm) (q := qn) (N := ns) (bs := bs) (bm := .ref D :: mroV) (hdct := true) (sn := sn) (sub := sub) (ab := ab) (col := col) (dd := dd) (k0 := k0) (k1 := k1) (k2 := k2) (k3 := k3) (k5 := k5) (newId := "ValueError.__new__") (by rw [List.contains_cons, show mroV.contains (.type "BaseException") = true by decide, Bool.or_true]) (I.ok.hd hc) ?_
  refine wpAny_bind (wpAny_mono (Q := fun v s1 => ∃ e o vs, v = .ref e ∧ s1.heap.get? C = some (excClassObj nm qn C ns bs (.ref D :: mroV) true sn sub ab col dd k0 k1 k2 k3 k5 "ValueError.__new__") ∧ s1.heap.get? e = some o ∧ o.cls = .ref C ∧ o.data = .fields vs ∧ vs[1]? = some .none ∧ X.xe (.ref e) s1) (E := X.xe) ?_ (fun v s3 h3 => wpAny_bind (wpAny_standAt (wpAny_pure h3))) fun _ _ z => z)
  refine wpAny_Call_Name_kw (ld_glob I hg hm ?_ hdb)
  refine PySem.W.callWith_K (h₀ := X.base) I.ok.mod.kin xi.kp (thn (ha cpos pins s σ H _ I h) fun us s1 ⟨vs, H1, I1, r, q⟩ => ⟨I1.kIn, ?_⟩) he hpl
  obtain ⟨v, rfl, q⟩ := q
  obtain ⟨u, rfl, rv⟩ : ∃ u, us = [u] ∧ RelV v u := by
    cases r with
    | cons rv rr =>
      cases rr
      exact ⟨_, rfl, rv⟩
  · obtain ⟨hp, g, d, tk, os⟩ := s1
    have hC1 : hp.get? C = some (excClassObj nm qn C ns bs (.ref D :: mroV) true sn sub ab col dd k0 k1 k2 k3 k5 "ValueError.__new__") := I1.bk _ _ hC
    have Z1 : X.K.In hp := I1.kIn
    have up : ∀ b o, hp.get? b = some o → ((hp.push (tupO [u])).push (excO C hp.objs.size)).get? b = some o := fun b o z => Heap.get?_push_of_some _ (Heap.get?_push_of_some _ z)
    have hge : ((hp.push (tupO [u])).push (excO C hp.objs.size)).get? (hp.objs.size + 1) = some (excO C hp.objs.size) := by
      have := Heap.get?_push_size (hp.push (tupO [u])) (o := excO C hp.objs.size) rfl
      rwa [Heap.size_push] at this
    have nf : H1 (hp.objs.size + 1) = none := I1.hok.fresh (Nat.le_succ _)
    have I2 : Inv X pins σ (upd H1 (hp.objs.size + 1) (ExcN (hp.objs.size + 1) C)) ⟨(hp.push (tupO [u])).push (excO C hp.objs.size), g, d, tk, os⟩ :=
      I1.laid (a := hp.objs.size + 1) (o := ExcN (hp.objs.size + 1) C) (t' := tk) up (Nat.le_succ _) ⟨⟨_, hge⟩, ⟨_, hge⟩, fun h1 h2 ⟨t, q⟩ k => ⟨t, k _ q⟩⟩
    have h00 : X.s₀.heap.get? (hp.objs.size + 1) = none := by
      cases z : X.s₀.heap.get? (hp.objs.size + 1) with
      | none => rfl
      | some o =>
        obtain ⟨o', z'⟩ := I1.base.there _ o z (by rw [hex]; simp)
        exact absurd (Heap.lt_size (show hp.get? (hp.objs.size + 1) = some o' from z')) (Nat.not_lt.mpr (Nat.le_succ _))
    have sp : spI C n [.ref (hp.objs.size + 1), v] (upd H1 (hp.objs.size + 1) (ExcN (hp.objs.size + 1) C)) (fun w H3 => w = .non ∧ ∃ dx, dx ≠ hp.objs.size + 1 ∧ H1 dx = none ∧ H3 = upd (upd H1 (hp.objs.size + 1) (ExcF (hp.objs.size + 1) C dx)) dx (.xd [(n, v)])) (fun _ _ _ => False) :=
      ⟨_, _, rfl, upd_same, fun dx hd ne => ⟨rfl, dx, ne, by rw [← upd_ne (H := H1) (o := ExcN (hp.objs.size + 1) C) ne]; exact hd, by rw [upd_upd]⟩⟩
    have r2 : Vals [V.ref (hp.objs.size + 1), v] [Value.ref (hp.objs.size + 1), u] := .cons rfl (.cons rv .nil)
    have hl : ([Value.ref (hp.objs.size + 1), u] ++ []).length = ps.length := by
      have z := Fn.len _ _ _ _ sp
      rw [← z]; rfl
    refine call_init PySem.F.excBase_ValueError (xi.tail Z1) hC1 (PySem.W.looks_findIn Z1 xi.ini) (PySem.W.looks_typeIn Z1 (beq_iff_eq.mp xi.fn)) (by show 1 ≤ sizeLine; decide) ?_
    refine wpAny_call (codeAny_mono (Fn.run _ X.stack _ _ ⟨[Value.ref (hp.objs.size + 1), u], []⟩ ([Value.ref (hp.objs.size + 1), u] ++ []) [V.ref (hp.objs.size + 1), v] _ (fun _ _ _ => False) (hr.make C [u] []) (I2.env0.make C [u] []) (hb _ [Value.ref (hp.objs.size + 1), u] I2.kIn hl) r2 sp) fun r s' hq => ?_)
    cases r with
    | error e => exact False.elim hq
    | ok fl =>
      cases fl with
      | next => exact False.elim hq
      | brk => exact False.elim hq
      | cont => exact False.elim hq
      | ret w =>
        obtain ⟨w', H3, I3, rw', ew, dx, ne, hd, eH⟩ := I2.after hq
        subst ew
        subst eH
        have xe : upd (upd H1 (hp.objs.size + 1) (ExcF (hp.objs.size + 1) C dx)) dx (.xd [(n, v)]) (hp.objs.size + 1) = some (ExcF (hp.objs.size + 1) C dx) := by rw [upd_ne ne.symm]; exact upd_same
        refine ⟨rw', hp.objs.size + 1, ?_⟩
        obtain ⟨⟨o, vs, a0, y1, y2, y3, _, y5, _⟩, _, _⟩ := I3.hok _ _ xe
        refine ⟨o, vs, rfl, I3.bk _ _ hC, y1, y2, y3, y5, R pins σ _ s' _ C dx I3 h00 xe ?_⟩
        rw [upd_comm ne, upd_upd]
        exact q _ dx nf hd ne
end
end L2
namespace L2
open PySem PySem.Spec PyProof.Rows
section
variable {X : Cx} {D : Addr} {i : Nat} {n x : Str} {np hpos pos : Pos} {body suite : List Stmt} {b₀ : Stmt} {tb : (St → XK) → TS} {th : TS} {L : Addr} {outer : List Env}
end
section
variable {X : Cx}
def rIsiD (K : PySem.W.Frag) : List V → Hp → VK → Prop := fun xs H Q => ∃ a c b C dx, xs = [.ref a, c] ∧ H a = some (ExcD a C dx) ∧ Asks K C ∧ (∀ u, RelV c u → PySem.W.kitOne K (.ref C) u = some b) ∧ Q (.bl b) H
theorem call_isiD {K : PySem.W.Frag} (h : X.K = K) : CallR X (.builtin "isinstance") (rIsiD K) := by
  subst h
  intro pins s σ H xs us Q I r h
  obtain ⟨a, c, b, C, dx, rfl, hH, ask, hk, q⟩ := h
  cases r with
  | cons r1 rr => cases rr with
    | cons r2 rr =>
      cases rr
      cases r1
      obtain ⟨⟨o, vs, h1, h2, h3, _⟩, _, _⟩ := I.hok a _ hH
      exact PySem.W.kia_one (kitx_exc ask) I.kIn ⟨o, vs, h1, h2, h3⟩ (hk _ r2) (by intro z; cases z) fun tk => ⟨.bl b, H, I.tok tk, rfl, q⟩
def tFldD (C : Addr) (n : Str) (to : TE) : TE := fun σ H Q => to σ H fun x H1 => ∃ a dx v, x = .ref a ∧ H1 a = some (ExcD a C (some dx)) ∧ H1 dx = some (.xd [(n, v)]) ∧ Q v H1
theorem pe_fldD {C : Addr} {n : Str} {o : Expr} {to : TE} {pos : Pos} (ask : Asks X.K C) (hd : PySem.W.hasDictIn X.K C = true) (na : NoAttr X.K C n) (ho : PE X o to) (hb : attributeBase o n X.env (eval o X.env) = eval o X.env := by rfl) : PE X (.Attribute o n pos) (tFldD C n to) := by
  intro pins s σ H Q I h
  refine attr_of hb (thn (ho pins s σ H _ I h) fun ov s1 ⟨x, H1, I1, rx, a, dx, v, ex, ha, hx, q⟩ => ?_)
  subst ex
  obtain rfl : ov = Value.ref a := rx
  obtain ⟨⟨ob, vs, h1, h2, h3, h4, _⟩, _, _⟩ := I1.hok a _ ha
  obtain ⟨mA, hn, hr⟩ := (show ObjOk X.prog X.w H1 s1.heap dx (.xd [(n, v)]) from I1.hok dx _ hx)
  have z := hr n
  simp only [List.lookup, beq_self_eq_true] at z
  obtain ⟨u, hu, ru⟩ := RelO.some_of z
  exact get_exc I1.kIn ask hd na h1 h2 h3 h4 hn.ns hu (handed_of ru) ⟨v, H1, I1.tok _, ru, q⟩
end
def KxD (G H : Hp) (C : Addr) (n : Str) (v : V) (E : XK) : Prop := ∀ x dx G' H', Step G H G' H' → H' x = none → H' dx = none → dx ≠ x → E (.ref C) (some x) (upd (upd H' x (ExcD x C (some dx))) dx (.xd [(n, v)]))
section
variable (P : Program) (w : World) (K : PySem.W.Frag) (mg : Str → Option Value) (base : Heap) (N : List Str) (qual : Str) (sc : Scope) (f : Addr) (k : Nat)
def cxXD (i : IxD k qual sc f) : Cx := cxOf (CXD P w) P w K mg base N qual sc f i.cdv i.A i.outer i.s i.H i.E
def famM : Fam (IxD k qual sc f) where
  cx i := (cxXD P w K mg base N qual sc f k i).nox
  P := P
  w := w
  K := K
  mg := mg
  base := base
  room := k
  hP _ := rfl
  hw _ := rfl
  hK _ := rfl
  hm _ := rfl
  hb _ := rfl
  hr i := i.hr
  calm _ := rfl
def RzD (sts : List Stmt) (ρ : En) (C : Addr) (n : Str) (v : V) : Prop := ∃ τ : IxD k qual sc f → TS, (∀ i, PSs (cxXD P w K mg base N qual sc f k i) sts (τ i)) ∧ ∀ i D σ G0 H0 G H, RS K G0 H0 G H ρ σ → KxD G0 H0 C n v i.E → τ i D σ H
end
section
variable {P : Program} {w : World} {K : PySem.W.Frag} {mg : Str → Option Value} {base : Heap} {N : List Str} {qual : Str} {sc : Scope} {f : Addr} {k : Nat} {ρ ρ1 : En} {st : Stmt} {sts A B : List Stmt} {C : Addr} {n : Str} {v : V} {c : Expr} {pos : Pos}
theorem rzD_raise {x : Str} {np cpos : Pos} {e : Expr} {D fi : Addr} {ki : Nat} {fdi : FuncData} {psi : List Str} (hm : mg x = some (.ref C)) (xi : XI K C D fi) (Fn : FnOk P w K mg base CX0 ki fi fdi psi (spI C n)) (hki : ki + 1 ≤ k) (hb : Binds K fdi psi []) (he : Ev (famM P w K mg base N qual sc f k) e ρ (.fz (.fl v)))
    (hg : ∀ i, Gl (cxXD P w K mg base N qual sc f k i) x := by intro _; rfl) (hst : ∀ i, starEach [e] (cxXD P w K mg base N qual sc f k i).env = (false, eval e (cxXD P w K mg base N qual sc f k i).env) :: starEach [] (cxXD P w K mg base N qual sc f k i).env := by intro _; rfl)
    (hdb : (x == ("__debug__" : Str)) = false := by decide) : RzD P w K mg base N qual sc f k (.Raise (some (.Call (.Name x np) [e] [] cpos)) none pos :: sts) ρ C n v := by
  obtain ⟨τ, p, q⟩ := he.use
  refine ⟨fun i => tSeq (tRaiseI C n i.E (tCons τ tNil)) tNever, fun i => pss_cons (ps_raiseI (X := cxXD P w K mg base N qual sc f k i) raiserD_of rfl rfl (hg i) hm xi Fn (i.hr.mono hki) hb (pa_cons (PE.nox (p i)) pa_nil (hst i)) (hst i) rfl hdb) pss_never, fun i D σ G0 H0 G H r kx => ?_⟩
  obtain ⟨fp, r⟩ := r
  refine q σ G H _ r.st.s r.own.rpd fun v' G' H' st hv => ?_
  cases hvi hv
  exact ⟨_, rfl, fun e dx h1 h2 h3 => kx e dx G' H' (r.st.trans st) h1 h2 h3⟩
theorem FunD.okD {x : Str} {st : Stmt} {dV : Value} {fd : FuncData} {ps : List Str} {sp : Sp} (F : FunD K x qual st dV f fd) (S : FnScope N ps (defScope st)) (len : ∀ vs H Q E, sp vs H Q E → vs.length = ps.length)
    (hbody : ∀ (cdv : Value) (A : Around) (outer : List Env) (s : Shared) (H : Hp) (vs : List V) (Q : VK) (E : XK), Room k (A.deeper (envOfC qual (defScope st) s.heap.objs.size f cdv)) → sp vs H Q E →
      ∃ t, PSs (cxOf (CXD P w) P w K mg base N qual (defScope st) f cdv A outer s H E) (defBody st) t ∧ t { nx := fun _ H' => Q .non H', rt := Q } (start N vs) H) : FnOk P w K mg base (CXD P w) (k + 1) f fd ps sp := by
  obtain ⟨oc, od, kV, doc, pm, an, cdv, ct, osl, rfl, lk, hcd⟩ := F.ex
  exact fn_of lk hcd S len fun A outer s H vs Q E hr hsp => hbody cdv A outer s H vs Q E hr hsp
end
section
variable {ι : Type} {F : Fam ι} {ρ ρ' : En} {D : Addr} {i : Nat} {n x : Str} {np hpos pos : Pos} {body suite : List Stmt} {b₀ : Stmt}
end
end L2
namespace L2
open PySem PySem.Spec PyProof.Rows
section
variable {prog : Program} {w : World} {A : Around} {E : Value → Shared → Prop} {s : Shared}
end
section
variable {prog : Program} {w : World} {A : Around} {E : Value → Shared → Prop} {s : Shared} {R : Result → Shared → Prop} {I : Addr} {fp wr : List Addr} {n : Nat} {P : Nat → Value → Prop} {St : Nat → Heap → Prop}
end
section
variable {prog : Program} {w : World} {A : Around} {E : Value → Shared → Prop} {s : Shared}
end
section
variable {prog : Program} {w : World} {A : Around} {E : Value → Shared → Prop} {s : Shared}
end
section
variable {X : Cx}
end
section
variable {ι : Type} {F : Fam ι} {e a b c : Expr} {es : List Expr} {ρ : En} {t ta tb' : Tr} {ts : List Tr} {pos : Pos}
end
end L2
namespace So
open PySem PyProof.Rows
section
variable {prog : Program} {w : World} {A : Around} {E : Value → Shared → Prop} {s : Shared}
end
end So
namespace So
open PySem PyProof.Rows
section
variable {κ : KeyKind}
variable {a b out : List Keyed} {ia ib : Nat}
end
section
variable {prog : Program} {w : World} {A : Around} {E : Value → Shared → Prop} {s : Shared} {kd : SortKind} {κ : KeyKind}
end
end So
namespace So
open PySem PyProof.Rows
section
variable {prog : Program} {w : World} {A : Around} {E : Value → Shared → Prop} {s : Shared} {kd : SortKind} {κ : KeyKind}
end
end So
namespace So
open PySem PyProof.Rows
section
variable {κ : KeyKind} {a b r : List Keyed} {na nb : Nat}
end
section
variable {prog : Program} {w : World} {A : Around} {E : Value → Shared → Prop} {s : Shared} {kd : SortKind} {κ : KeyKind}
end
end So
namespace So
open PySem PyProof.Rows
section
variable {κ : KeyKind} {kd : SortKind} {a0 x0 : Array Keyed} {p : Array (Nat × Nat × Nat)} {lo : Nat} {st : SortSt}
end
section
variable {prog : Program} {w : World} {A : Around} {E : Value → Shared → Prop} {s : Shared} {kd : SortKind} {κ : KeyKind} {a0 x0 : Array Keyed} {p : Array (Nat × Nat × Nat)} {lo : Nat}
end
end So
namespace So
open PySem PyProof.Rows
section
variable {prog : Program} {w : World} {A : Around} {E : Value → Shared → Prop} {s : Shared} {kd : SortKind} {κ : KeyKind} {a0 x0 : Array Keyed} {p : Array (Nat × Nat × Nat)} {lo : Nat}
end
end So
namespace So
open PySem PyProof.Rows
section
variable {prog : Program} {w : World} {A : Around} {E : Value → Shared → Prop} {s : Shared} {kd : SortKind} {κ : KeyKind} {a0 x0 : Array Keyed}
end
end So
namespace So
open PySem PyProof.Rows
section
variable {prog : Program} {w : World} {A : Around} {E : Value → Shared → Prop} {s : Shared} {kd : SortKind} {κ : KeyKind} {a0 : Array Keyed}
end
end So
namespace So
open PySem PyProof.Rows
section
variable {prog : Program} {w : World} {A : Around} {E : Value → Shared → Prop} {s : Shared}
end
end So
namespace So
open PySem PyProof.Rows
section
variable {prog : Program} {w : World} {A : Around} {E : Value → Shared → Prop} {s : Shared}
end
end So
namespace So
open PySem PyProof.Rows
section
variable {prog : Program} {w : World} {A : Around} {E : Value → Shared → Prop} {s : Shared} {d it : Addr} {ks : List Addr} {ep i : Nat}
end
end So
namespace L2
open PySem PySem.Spec PyProof.Rows
section
variable {X : Cx}
end
end L2
namespace L2
open PySem PySem.Spec PyProof.Rows
section
variable {ι : Type} {F : Fam ι} {e : Expr} {ρ : En} {ta : Tr} {pos : Pos}
end
end L2
namespace L2
open PySem PySem.Spec PyProof.Rows
end L2
namespace L2
open PySem PySem.Spec PyProof.Rows
open PySem.AutoSeq1 (wpAny_loadPart')
open PySem.MeetsSeq PySem.MeetsSeq2 PySem.MeetsSeq3
end L2
namespace L2
open PySem PySem.Spec PyProof.Rows
section
variable {prog : Program} {w : World} {A : Around} {E : Value → Shared → Prop} {s : Shared} {d : Addr} {n : Nat}
end
end L2
namespace L2
open PySem
theorem entry_unchain : entryFor table "proto.unchain" = some Builtin.«proto.unchain» := entryFor_of_tree (by kernel_rfl)
def NoCtx (h : Heap) (x : Addr) : Prop := ∃ o vs, h.get? x = some o ∧ o.data = .fields vs ∧ vs[2]? = some .none
section
variable {prog : Program} {w : World} {A : Around} {E : Value → Shared → Prop} {s : Shared} {α : Type}
theorem raiseNew_some {e x : Addr} {o : Obj} {vs : Array Value} {Q : α → Shared → Prop} (hh : A.handled = some (.ref x)) (ne : x ≠ e) (ho : s.heap.get? e = some o) (hd : o.data = .fields vs) (h2 : 2 < vs.size) (hx : NoCtx s.heap x)
    (k : E (.ref e) { s with heap := s.heap.update e (Obj.mapFields (·.setIfInBounds 2 (.ref x))) }) : wpAny (model prog w) A (raiseNew (.ref e) : Sem α) Q E s := by
  obtain ⟨ox, xs, hx, hxd, hx2⟩ := hx
  unfold raiseNew
  refine wpAny_bind (wpAny_handled ?_)
  rw [hh]
  have nb : (Value.ref x != Value.ref e) = true := by simp [ne]
  simp only [nb, if_true]
  refine wpAny_bind (wpAny_holding (wpAny_runValue (codeAny_builtin entry_unchain ?_)))
  show wpAny _ _ (field (.ref x) 2 >>= _) _ _ _
  refine wpAny_bind (wpAny_field hx hxd hx2 ?_)
  rw [if_pos (by decide)]
  refine wpAny_pure ?_
  exact wpAny_bind (show wpAny _ _ (setField (.ref e) 2 (.ref x)) _ _ _ from wpAny_setField ho hd h2 (wpAny_throw k))
theorem next_range_endH {it x : Addr} {a left step : Int} {Q : Option Value → Shared → Prop} (hh : A.handled = some (.ref x)) (hx : NoCtx s.heap x) (hit : IsRangeIter s.heap it a left step) (hl : left ≤ 0)
    (hQ : ∀ h', Heap.ExtBut it s.heap h' → Q none { s with heap := h' }) : wpAny (model prog w) A (pyNext (.ref it)) Q E s := by
  have hT : s.TypeIs (.ref it) "range_iterator" := ⟨_, hit, rfl⟩
  unfold pyNext
  refine wpAny_bind (wpAny_attempt (wpAny_callSpecial?_slot (name := Str.ofString "__next__") hT F.slot_range_iterator_next (wpAny_call_entry F.slot_range_iterator_next hT F.entry_range_iterator_next ?_ (F.args_range_iterator_next_1 _))))
  show wpAny _ _ (field (.ref it) 0 >>= _) _ _ s
  refine wpAny_bind (wpAny_field hit rfl (x := rawInt a) rfl ?_)
  show wpAny _ _ (field (.ref it) 1 >>= _) _ _ s
  refine wpAny_bind (wpAny_field hit rfl (x := rawInt left) rfl ?_)
  show wpAny _ _ (field (.ref it) 2 >>= _) _ _ s
  refine wpAny_bind (wpAny_field hit rfl (x := rawInt step) rfl ?_)
  show wpAny _ _ (if left ≤ 0 then _ else _) _ _ s
  rw [if_pos hl]
  refine wpAny_bind (wpAny_rule (wpAny_bind ?_))
  show wpAny _ _ (newExc (.type "StopIteration") [] >>= _) _ _ _
  refine wpAny_bind ?_
  simp only [newExc, newTuple]
  refine wpAny_bind (wpAny_newObj_type ?_ (by size_fits))
  refine wpAny_bind (m := firstArgMember _ _) (wpAny_of_eq (a := Value.none) (by first | rfl | (simp only [firstArgMember]; rfl)) ?_)
  refine wpAny_newObj_type ?_ (by size_fits)
  obtain ⟨ox, xs, q1, q2, q3⟩ := hx
  have up : ∀ (z1 z2 : Obj) b o, s.heap.get? b = some o → ((s.heap.push z1).push z2).get? b = some o := fun z1 z2 b o z => Heap.get?_push_of_some _ (Heap.get?_push_of_some _ z)
  have lt := Heap.lt_size q1
  have lti := Heap.lt_size hit
  refine raiseNew_some (x := x) (by first | exact hh | exact (show A.in1.handled = _ from hh)) (by rw [Heap.size_push]; exact Nat.ne_of_lt (Nat.lt_succ_of_lt lt)) (Heap.get?_push_size _ rfl) rfl (Nat.lt_of_lt_of_le (show 2 < 6 by decide) (by rw [Array.size_append]; exact Nat.le_add_right 6 _)) ⟨ox, xs, up _ _ _ _ q1, q2, q3⟩ ?_
  refine wpAny_bind (wpAny_isInstance (T := "StopIteration") (b := true) ⟨_, Heap.get?_update_self _ (Heap.get?_push_size _ rfl) rfl, rfl⟩ isSubtype_stop ?_)
  refine wpAny_pure (hQ _ fun b o hb e => ?_)
  have ltb := Heap.lt_size e
  refine (Heap.get?_update_other _ _ ?_).trans (up _ _ _ _ e)
  rw [Heap.size_push]
  exact Nat.ne_of_gt (Nat.lt_succ_of_lt ltb)
end
end L2
namespace L2
open PySem PySem.Spec PyProof.Rows
structure TurnH (A : Around) (P : Program) (w : World) (K : PySem.W.Frag) (tg : Expr) (J : It) (fp : List Addr) (it : Addr) (tn : Nat → Heap → Prop) : Prop where
  mem : it ∈ fp
  obj : ∀ i h, tn i h → ∀ b ∈ fp, ∃ o, h.get? b = some o ∧ ∀ v, o.data ≠ .cell v
  keep : ∀ i h h', tn i h → (∀ b ∈ fp, ∀ o, h.get? b = some o → h'.get? b = some o) → tn i h'
  item : ∀ (X : Cx), X.prog = P → X.w = w → X.K = K → X.A = A → ∀ (i : Nat) (pins : List (Addr × Obj)) (s : Shared) (σ : St) (H : Hp) (E : Value → Shared → Prop), Inv X pins σ H s → (∀ b ∈ fp, FpOk X pins H b) → tn i s.heap → J.go i H →
    wpAny (model P w) A (pyNext (.ref it)) (fun r s1 => ∃ u, r = some u ∧
      wpAny (model P w) A (letOwnedTupleGo tg (.ref it) u) (fun _ s2 => ∃ x H', Inv X pins σ H' s2 ∧ RelV x u ∧ J.yld i H x H' ∧ tn (i + 1) s2.heap ∧ ∀ b ∈ fp, H' b = none) E s1) E s
  done : ∀ (X : Cx), X.prog = P → X.w = w → X.K = K → X.A = A → ∀ (i : Nat) (pins : List (Addr × Obj)) (s : Shared) (σ : St) (H : Hp) (E : Value → Shared → Prop), Inv X pins σ H s → (∀ b ∈ fp, FpOk X pins H b) → tn i s.heap → J.stop i H →
    wpAny (model P w) A (pyNext (.ref it)) (fun r s1 => r = none ∧ Inv X pins σ H s1) E s
  self : ∀ (A : Around) (i : Nat) (s : Shared) (Q : Value → Shared → Prop) (E : Value → Shared → Prop), tn i s.heap → Q (.ref it) s → wpAny (model P w) A (pyIter (.ref it)) Q E s
def PIEH (X : Cx) (pins : List (Addr × Obj)) (σ : St) (tg : Expr) (R : It → Hp → Prop) (itv : Value) (s2 : Shared) : Prop :=
  ∃ (it : Addr) (fp : List Addr) (tn : Nat → Heap → Prop) (J : It) (H' : Hp), itv = .ref it ∧ Inv X pins σ H' s2 ∧ TurnH X.A X.prog X.w X.K tg J fp it tn ∧ tn 0 s2.heap ∧ (∀ b ∈ fp, FpOk X pins H' b) ∧ R J H'
def PIH (X : Cx) (tg iter : Expr) (wi : TI) : Prop :=
  ∀ (pins : List (Addr × Obj)) (s : Shared) (σ : St) (H : Hp) (R : It → Hp → Prop), Inv X pins σ H s → wi σ H R →
    wpAny (model X.prog X.w) X.A (eval iter X.env) (fun v s1 => wpAny (model X.prog X.w) X.A (pyIter v) (PIEH X pins σ tg R) X.xe s1) X.xe s
def ItrH (x : Addr) (n : Nat) : It := ⟨fun i _ => i < n, fun i H v H' => H' = H ∧ v = .int (0 + (i : Int)), fun i H => n ≤ i ∧ ∃ C d, H x = some (ExcD x C d)⟩
theorem turn_rangeH {A : Around} {P : Program} {w : World} {K : PySem.W.Frag} {tg : Expr} {x : Addr} (hh : A.handled = some (.ref x)) (it : Addr) (n : Nat) : TurnH A P w K tg (ItrH x n) [it] it (fun i h => IsRangeIter h it (0 + (i : Nat) * 1) ((n : Int) - (i : Nat)) 1) where
  mem := by simp
  obj := fun i h st b hb => by
    have e : b = it := by simpa using hb
    subst e
    exact ⟨_, st, fun v z => by
      have z' : Data.fields _ = Data.cell v := z
      cases z'⟩
  keep := fun i h h' st k => k it (by simp) _ st
  item := by
    intro X hP hw hK hA i pins s σ H E I hf st hg
    subst hP hw hK
    obtain ⟨f0, f1, f2, f3, f4, f5⟩ := hf it (by simp)
    have hg : i < n := hg
    refine wpAny_pyNext_range_item st (by omega) fun h' st' sb => ?_
    have I1 : Inv X pins σ H { s with heap := h', toks := s.toks + 1 } := I.turned (fun b o hb e => (sb.2 b hb).trans e) f0 f1 f3 f4 f5
    have e1 : (0 : Int) + ((i + 1 : Nat) : Int) * 1 = 0 + (i : Int) * 1 + 1 := by push_cast; omega
    have e2 : (n : Int) - ((i + 1 : Nat) : Int) = (n : Int) - (i : Int) - 1 := by push_cast; omega
    have st2 : IsRangeIter h' it (0 + ((i + 1 : Nat) : Int) * 1) ((n : Int) - ((i + 1 : Nat) : Int)) 1 := by rw [e1, e2]; exact st'
    refine ⟨_, rfl, go_of (s := { s with heap := h', toks := s.toks + 1 }) (n := "range_iterator") st2 rfl rfl (by decide) ⟨.int (0 + i), H, I1, ⟨s.toks, ?_⟩, ⟨rfl, rfl⟩, st2, fun b hb => (hf b hb).1⟩⟩
    rw [Int.mul_one]
  done := by
    intro X hP hw hK hA i pins s σ H E I hf st hg
    subst hP hw hK
    obtain ⟨f0, f1, f2, f3, f4, f5⟩ := hf it (by simp)
    obtain ⟨hn, C, d, hx⟩ := hg
    obtain ⟨⟨o, vs, q1, q2, q3, q4, q5⟩, _, _⟩ := I.hok x _ hx
    exact next_range_endH hh ⟨o, vs, q1, q3, q5⟩ st (by omega) fun h' eb => ⟨rfl, I.turned (t' := s.toks) (fun b o hb e => eb b o hb e) f0 f1 f3 f4 f5⟩
  self := fun _ _ _ _ _ st h => wpAny_pyIter_rangeiter st h
def iRngH (x : Addr) (ta : TA) : TI := fun σ H R => ta σ H fun vs H1 => ∃ j : Int, vs = [.int j] ∧ -(2 ^ 62) ≤ j ∧ j < 2 ^ 62 ∧ R (ItrH x j.toNat) H1
section
variable {X : Cx} {tg : Expr} {x : Addr}
theorem pi_rangeH {a : Expr} {ta : TA} {p pos : Pos} (hh : X.A.handled = some (.ref x)) (hg : Gl X "range") (hm : X.mg "range" = none) (ha : PA X [a] ta) (hs : starEach [a] X.env = [(false, eval a X.env)] := by rfl) : PIH X tg (.Call (.Name "range" p) [a] [] pos) (iRngH x ta) := by
  intro pins s σ H R I h
  refine Call_ (ld_blt I hg hm boot_range (PyProof.Rows.callWith_type1 (thn (ha pos pins s σ H _ I h) fun us s1 ⟨vs, H1, I1, r1, q1⟩ => ?_) hs rfl))
  obtain ⟨j, e, q1, q2, q⟩ := q1
  subst e
  cases r1 with
  | cons r rr =>
    cases rr
    obtain ⟨t, rfl⟩ := r
    refine call_range_1 ?_
    refine wpAny_pyIter_range (IsRange.new ..) (small_one (by omega) (by omega) q1 q2) ?_
    have I2 := fun (z : Obj) (tk : Nat) => I1.kept (h' := s1.heap.push z) (t' := tk) fun b o e => Heap.get?_push_of_some _ e
    refine ⟨_, [_], _, _, H1, rfl, (I2 _ _).kept (t' := _) fun b o e => Heap.get?_push_of_some _ e, turn_rangeH hh _ j.toNat, ?_, fun b hb => ?_, q⟩
    · have e1 : (0 : Int) + ((0 : Nat) : Int) * 1 = 0 := by simp
      have e2 : ((j.toNat : Nat) : Int) - ((0 : Nat) : Int) = Builtin.Range.rangeSize 0 j 1 := by rw [rangeSize_one]; split <;> omega
      show IsRangeIter _ _ (0 + ((0 : Nat) : Int) * 1) (((j.toNat : Nat) : Int) - ((0 : Nat) : Int)) 1
      rw [e1, e2]
      exact Heap.get?_push_size _ rfl
    · rw [List.mem_singleton.mp hb]
      exact (I2 _ _).fpOk (Nat.le_refl _) ((I2 _ _).hok.fresh (Nat.le_refl _))
end
theorem pe_lcH {X : Cx} {elt tg iter : Expr} {ifs : List Expr} {sc : Scope} {cl : List (Str × Addr)} {own : List Str} {fr : List Nat} {pos : Pos} {wi : TI} {g : TG} {tt : TT} {te : TE}
    (L : LcScope X sc cl fr) (hi : PIH X tg iter wi)
    (hg : ∀ C s H ex pn, PG (cxLc X own fr sc cl C s H ex pn) tg g)
    (ht : ∀ C s H ex pn (pins : List (Addr × Obj)) (s1 : Shared) (σ1 : St) (H1 : Hp) (Q : Bool → Hp → Prop), Inv (cxLc X own fr sc cl C s H ex pn) pins σ1 H1 s1 → tt σ1 H1 Q →
      wpAny (model X.prog X.w) X.A (lcTests ifs (compEnvC sc (cellsFrom (C + 1) sc.names cl) C X.env)) (TP (cxLc X own fr sc cl C s H ex pn) pins σ1 Q) NoX s1)
    (he : ∀ C s H ex pn, PE (cxLc X own fr sc cl C s H ex pn) elt te) (hs : ∀ x, foldedSetIterable iter X.env x = pure x := by intro _; rfl) :
    PE X (.ListComp elt [⟨tg, iter, ifs, 0⟩] sc pos) (tLc wi g tt te own fr) := by
  intro pins s σ H Q I h
  rw [eval_ListComp]
  refine wpAny_comprehension_free (use := none) rfl hs L.clos L.kind L.names (thn (hi pins s σ H _ I h) fun v s1 h1 => thn h1 fun itv s2 h2 => ?_)
  obtain ⟨it, fp, tn, J, H2, e, I2, T, st2, f2, h2⟩ := h2
  subst e
  refine wpAny_newObj_type ?_
  have I3 : Inv X pins σ (upd H2 s2.heap.objs.size (.lst [])) { s2 with heap := s2.heap.push { cls := .type "list", data := .seq ([] : List Value).toArray } } := I2.lnew (t' := s2.toks) .nil (Nat.zero_le _)
  have n2 : H2 s2.heap.objs.size = none := I2.fresh
  obtain ⟨W, ⟨m0, w0⟩, turn⟩ := h2 _ n2
  have lt2 : ∀ b ∈ fp, b < s2.heap.objs.size := fun b hb => by
    obtain ⟨o, eo, _⟩ := T.obj 0 _ st2 b hb
    exact Heap.lt_size eo
  have fp3 : ∀ b ∈ fp, FpOk X pins (upd H2 s2.heap.objs.size (.lst [])) b := fun b hb => ⟨by rw [upd_ne (Nat.ne_of_lt (lt2 b hb))]; exact (f2 b hb).1, (f2 b hb).2⟩
  generalize hs3 : ({ s2 with heap := s2.heap.push { cls := .type "list", data := .seq ([] : List Value).toArray } } : Shared) = s3 at I3
  have st3 : tn 0 s3.heap := by
    rw [← hs3]
    exact T.keep 0 _ _ st2 fun b hb o eo => Heap.get?_push_of_some _ eo
  have lt3 : ∀ b ∈ fp, b < s3.heap.objs.size := fun b hb => by
    obtain ⟨o, eo, _⟩ := T.obj 0 _ st3 b hb
    exact Heap.lt_size eo
  generalize hH3 : upd H2 s2.heap.objs.size (.lst []) = H3 at I3 fp3 w0
  generalize s2.heap.objs.size = acc at turn w0 hH3 ⊢
  refine newEnv_cells ?_
  have hns : (pushCells (s3.heap.push { cls := .type "dict", data := .dict #[] }) sc.names).Ns s3.heap.objs.size fun _ => none := (Heap.Ns.new s3.heap (.type "dict")).keeps (pushCells_keeps _ _)
  have kp : ∀ b o, s3.heap.get? b = some o → (pushCells (s3.heap.push { cls := .type "dict", data := .dict #[] }) sc.names).get? b = some o := fun b o eo => pushCells_keeps _ _ b o (Heap.get?_push_of_some _ eo)
  have ncl : ∀ y c, (cellsFrom (s3.heap.objs.size + 1) sc.names cl).lookup y = some c → cl.lookup y = some c ∨ (pushCells (s3.heap.push { cls := .type "dict", data := .dict #[] }) sc.names).IsCell c none := fun y c e =>
    cf_cell sc.names (s3.heap.push { cls := .type "dict", data := .dict #[] }) cl y c (by rw [Heap.size_push]; exact e)
  generalize hh4 : pushCells (s3.heap.push { cls := .type "dict", data := .dict #[] }) sc.names = h4 at hns kp ncl
  have I4 := lcInv (own := own) (tk := s3.toks) L I3 fp3 lt3 hns kp ncl
  have st4 : tn 0 h4 := T.keep 0 _ _ st3 fun b hb o eo => kp b o eo
  have stat : ∀ {H' : Hp}, (∀ b ∈ fp, H' b = none) → ∀ b ∈ fp, FpOk (cxLc X own fr sc cl s3.heap.objs.size s3 H3 fp (X.pn ++ pins)) [] H' b := fun {H'} hn b hb =>
    ⟨hn b hb, Nat.ne_of_lt (lt3 b hb), fun z => (List.mem_cons.mp (I3.stkSub b z)).elim (fp3 b hb).2.1 (fp3 b hb).2.2.1, .inl hb, fun y c e => (cf_lookup _ _ _ y c e).elim (fun q => (fp3 b hb).2.2.2.2.1 y c (L.sub y c q)) fun q => Nat.ne_of_gt (Nat.lt_of_lt_of_le (lt3 b hb) (Nat.le_of_succ_le q.1)), fun p hp => (fp3 b hb).2.2.2.2.2 p (by
      have z : p ∈ (X.pn ++ pins) ++ [] := hp
      simpa using z)⟩
  have loop : codeAny (model X.prog X.w) X.A (.compLoop (.ListComp elt [⟨tg, iter, ifs, 0⟩] sc pos) 0 (.ref it) (.ref acc) (compEnvC sc (cellsFrom (s3.heap.objs.size + 1) sc.names cl) s3.heap.objs.size X.env))
      (compPost (model X.prog X.w) X.A X.xe none (EP X pins σ Q) (.ref acc) s3.heap.objs.size) { s3 with heap := h4, toks := s3.toks } := by
    refine lcLoop (fun n s' => ∃ i ys σ1 H1, Inv (cxLc X own fr sc cl s3.heap.objs.size s3 H3 fp (X.pn ++ pins)) [] σ1 H1 s' ∧ tn i s'.heap ∧ (∀ b ∈ fp, H1 b = none) ∧ W i n ys σ1 H1) ?_ m0 ⟨0, [], _, H3, I4, st4, fun b hb => (fp3 b hb).1, w0⟩
    rintro n s5 ⟨i, ys, σ5, H5, I5, st5, fr5, w5⟩
    obtain ⟨hacc, hlen, hh⟩ := turn i n ys σ5 H5 w5
    rcases hh with ⟨stop, qn⟩ | ⟨go, N, hN, step⟩
    · refine thn (T.done (cxLc X own fr sc cl s3.heap.objs.size s3 H3 fp (X.pn ++ pins)) rfl rfl rfl rfl i [] s5 σ5 H5 NoX I5 (stat fr5) st5 stop) fun r s6 ⟨hr, I6⟩ => ?_
      subst hr
      obtain ⟨m6, ns6, _⟩ := id I6.loc
      refine ⟨m6, ns6, fun h7 sb7 => ⟨.ref acc, H5, ?_, rfl, qn⟩⟩
      have old : ∀ b o, s3.heap.get? b = some o → b ≠ s3.heap.objs.size := fun b o eo => Nat.ne_of_lt (Heap.lt_size eo)
      have u6 : Un (frs X.stack) fp H3 H5 s3.heap s6.heap := I6.base
      have u7 : Un (frs X.stack) fp H3 H5 s3.heap h7 :=
        ⟨fun b o eo nn hb hx => (sb7.2 b (old b o eo)).trans (u6.keep b o eo nn hb hx), fun b o eo nn hb hx => by
          obtain ⟨sl, q⟩ := u6.slot b o eo nn hb hx
          exact ⟨sl, (sb7.2 b (old b o eo)).trans q⟩, u6.free, fun b o eo hx => by
          obtain ⟨o', q⟩ := u6.there b o eo hx
          exact ⟨o', (sb7.2 b (old b o eo)).trans q⟩, u6.tups, u6.frzs, u6.tbls⟩
      have fC : H5 s3.heap.objs.size = none := I6.free
      have hok7 : HOk X.prog X.w H5 h7 := fun b ob eb => by
        refine (I6.hok b ob eb).stay (fun c w' hc' q => (sb7.2 c ?_).trans q) (fun _ q => q) fun _ _ q => q
        rintro rfl
        rcases hc' with z | z
        · rw [← z, fC] at eb; cases eb
        · rw [fC] at z; cases z
      exact I3.call' (s' := { s6 with heap := h7 }) I6.os u7 hok7 I6.bare fun b hb => ⟨(fp3 b hb).2.2.2.1, (fp3 b hb).2.1, (fp3 b hb).2.2.2.2.1, (fp3 b hb).2.2.2.2.2⟩
    · refine thn (T.item (cxLc X own fr sc cl s3.heap.objs.size s3 H3 fp (X.pn ++ pins)) rfl rfl rfl rfl i [] s5 σ5 H5 NoX I5 (stat fr5) st5 go) fun r s6 ⟨u, hr, h6⟩ => ?_
      subst hr
      refine thn h6 fun _ s7 ⟨x, H7, I7, r7, y7, st7, fr7⟩ => ?_
      have I7' := I7.pinned (stat fr7) (T.obj _ _ st7)
      refine thn (hg _ _ _ _ _ _ s7 σ5 H7 x u _ I7' r7 (step x H7 y7)) fun _ s8 ⟨σ8, H8, I8, q8⟩ => ?_
      have again : ∀ {zs : List V} {σ9 : St} {H9 : Hp} {s9 : Shared}, Inv (cxLc X own fr sc cl s3.heap.objs.size s3 H3 fp (X.pn ++ pins)) ([] ++ pinsAt fp s7.heap) σ9 H9 s9 → N zs σ9 H9 →
          ∃ m, m < n ∧ ∃ i ys σ1 H1, Inv (cxLc X own fr sc cl s3.heap.objs.size s3 H3 fp (X.pn ++ pins)) [] σ1 H1 s9 ∧ tn i s9.heap ∧ (∀ b ∈ fp, H1 b = none) ∧ W i m ys σ1 H1 := fun {zs σ9 H9 s9} I9 n9 => by
        obtain ⟨m', hm, w9⟩ := hN zs σ9 H9 n9
        refine ⟨m', hm, i + 1, zs, σ9, H9, I9.unpinned, T.keep _ _ _ st7 fun b hb o e => (I9.pin (b, o) (List.mem_append_right _ (List.mem_append_right _ (mem_pinsAt hb e)))).1, fun b hb => ?_, w9⟩
        obtain ⟨o, e, d⟩ := T.obj _ _ st7 b hb
        exact (I9.pin (b, o) (List.mem_append_right _ (List.mem_append_right _ (mem_pinsAt hb e)))).2.1
      refine thn (ht _ _ _ _ _ _ s8 σ8 H8 _ I8 q8) fun ok s9 ⟨H9, I9, q9⟩ => ?_
      cases ok with
      | false => exact again I9 (by simpa using q9)
      | true =>
        refine thn (he _ _ _ _ _ _ s9 σ8 H9 _ I9 q9) fun z s10 ⟨y, H10, I10, r10, a10, q10⟩ => ?_
        refine thn (mt_append _ s10 σ8 H10 (.ref acc) [y] (.ref acc) [z] (fun _ H' => N (ys ++ [y]) σ8 H') I10 rfl (.cons r10 .nil) ⟨acc, ys, y, rfl, rfl, a10, hlen, q10⟩) fun _ s11 ⟨_, H11, I11, _, q11⟩ => again I11 q11
  rw [← hs3] at loop ⊢
  exact codeAny_compStart_list loop (noX (T.self _ 0 _ _ _ st4 (by rw [hs3]; rw [hs3] at loop; exact loop)))
structure RoomH (k : Nat) (A : Around) : Prop where
  dp : A.depth + 3 * k + 5 < recursionLimit
  un : A.units + 16 * k + 200 < cLine
theorem Room.h {k : Nat} {A : Around} (r : Room k A) (v : Option Value) : RoomH k (A.mark v) := ⟨r.dp, r.un⟩
theorem RoomH.mono {j k : Nat} {A : Around} (r : RoomH k A) (h : j ≤ k) : RoomH j A := ⟨by have := r.dp; omega, by have := r.un; omega⟩
def cxH (P : Program) (w : World) (K : PySem.W.Frag) (mg : Str → Option Value) (base : Heap) (N : List Str) (qual : Str) (sc : Scope) (f : Addr) (cd : Value) (A : Around) (outer : List Env) (s : Shared) (H : Hp) : Cx :=
  { (cxOf CX0 P w K mg base N qual sc f cd A outer s H fun _ _ _ => False).nox with calm := false }
structure FnOkH (P : Program) (w : World) (K : PySem.W.Frag) (mg : Str → Option Value) (base : Heap) (k : Nat) (f : Addr) (fd : FuncData) (ps : List Str) (sp : Addr → Sp) : Prop where
  len : ∀ x vs H Q E, sp x vs H Q E → vs.length = ps.length
  run : ∀ (x : Addr) (A : Around) (outer : List Env) (s : Shared) (H : Hp) (args : Args) (us : List Value) (vs : List V) (Q : VK), A.handled = some (.ref x) → RoomH k A → Env0 P w K mg base A outer s H → BindsTo s fd args (ps.zip us) → Vals vs us → sp x vs H Q (fun _ _ _ => False) →
    codeAny (model P w) A (.call (.ref f) args) (CR CX0 outer P w H s Q fun _ _ _ => False) s
section
variable {P : Program} {w : World} {K : PySem.W.Frag} {mg : Str → Option Value} {base : Heap}
theorem FunD.okH {x qual : Str} {st : Stmt} {dV : Value} {f : Addr} {fd : FuncData} {N ps : List Str} {k : Nat} {sp : Addr → Sp} (F : FunD K x qual st dV f fd) (S : FnScope N ps (defScope st)) (len : ∀ x vs H Q E, sp x vs H Q E → vs.length = ps.length)
    (hbody : ∀ (x : Addr) (cdv : Value) (A : Around) (outer : List Env) (s : Shared) (H : Hp) (vs : List V) (Q : VK), (A.deeper (envOfC qual (defScope st) s.heap.objs.size f cdv)).handled = some (.ref x) → RoomH k (A.deeper (envOfC qual (defScope st) s.heap.objs.size f cdv)) → sp x vs H Q (fun _ _ _ => False) →
      ∃ t, PSs (cxH P w K mg base N qual (defScope st) f cdv A outer s H) (defBody st) t ∧ t { nx := fun _ H' => Q .non H', rt := Q } (start N vs) H) : FnOkH P w K mg base (k + 1) f fd ps sp := by
  obtain ⟨oc, od, kV, doc, pm, an, cdv, ct, osl, rfl, lk, hcd⟩ := F.ex
  refine ⟨len, fun x A outer s H args us vs Q hh hr e0 hb r hsp => ?_⟩
  have hl := len _ _ _ _ _ hsp
  have kx : K.In s.heap := e0.mod.kin.keeps fun b o e => (e0.bs b o e).1
  have lim : s.heap.NoLimit := e0.mod.nolimit.keeps fun b o e => (e0.bs b o e).1
  have hk : ∀ y ∈ ps.zip us, (defScope st).names.lookup y.1 = some .local ∨ ((defScope st).names.lookup y.1 = some .cell ∧ ((cellsFrom (s.heap.objs.size + 1) (defScope st).names []).lookup y.1).isSome = true) := fun ⟨n, v⟩ hy => by
    rcases S.par n (List.of_mem_zip hy).1 with q | q
    · exact .inl q
    · exact .inr ⟨q, PySem.W.cellsFrom_some _ _ _ (.inl q)⟩
  refine codeAny_call_function (by have := hr.dp; omega) (kx _ _ lk) rfl S.co S.gen rfl (PySem.W.codeRec_of kx hcd) (hb _ _ _ _ ?_)
  refine wpAny_newFunctionEnv_cells S.kind hk fun env he s1 z => ?_
  subst he
  refine ⟨lim.keeps z.toInCall.keep, codeAny_func ?_⟩
  obtain ⟨t, ht, hq⟩ := hbody x cdv A outer s H vs Q hh ⟨by have := hr.dp; show A.depth + 1 + 3 * k + 5 < _; omega, by have := hr.un; show A.units + 3 + 16 * k + 200 < _; omega⟩ hsp
  have e1 : Env0 P w K mg base { A with handled := none } outer s H := ⟨e0.frames, e0.mod, e0.bs, e0.bsz, e0.funs, e0.frf, e0.hok, e0.bare⟩
  have I0 := inv_start (CX := CX0) (f := f) (cd := cdv) (E := fun _ _ _ => False) S (A := { A with handled := none }) rfl e1 hl r z
  have I : Inv (cxH P w K mg base N qual (defScope st) f cdv A outer s H) [] (start N vs) H s1 :=
    ⟨⟨I0.ok.mod, I0.ok.kind, I0.ok.glob, I0.ok.blt, I0.ok.above, I0.ok.inj, I0.ok.has, I0.ok.cab, fun z => Bool.noConfusion z, I0.ok.frames, I0.ok.stk, I0.ok.exf, I0.ok.bs, I0.ok.bsz, I0.ok.noex, I0.ok.exfs, I0.ok.funs, I0.ok.frf⟩, I0.os, I0.bare, I0.base, I0.loc, I0.cell, I0.free, I0.freeC, I0.pin, I0.hok, I0.len⟩
  refine wpAny_mono (ht [] s1 (start N vs) H _ I hq) (fun fl s' hs => ?_) fun e s' hs => hs.elim
  cases fl with
  | ret u =>
    obtain ⟨v, σ', H', J, rv, q⟩ := hs
    exact ⟨v, H', J.os, J.bare, J.base, J.hok, rv, q⟩
  | next =>
    obtain ⟨σ', H', J, q⟩ := hs
    exact ⟨V.non, H', J.os, J.bare, J.base, J.hok, rfl, q⟩
  | brk =>
    obtain ⟨_, _, _, q⟩ := hs
    exact False.elim q
  | cont =>
    obtain ⟨_, _, _, q⟩ := hs
    exact False.elim q
end
def tCallH (sp : Sp) (t : TA) : TE := fun σ H Q => t σ H fun vs H1 => sp vs H1 Q fun _ _ _ => False
theorem pe_callH {X : Cx} {k : Nat} {f x : Addr} {fd : FuncData} {ps : List Str} {sp : Addr → Sp} {g : Str} {p pos : Pos} {e : Expr} {es : List Expr} {t : TA} (F : FnOkH X.prog X.w X.K X.mg X.base k f fd ps sp) (hh : X.A.handled = some (.ref x)) (hr : RoomH k X.A) (hg : Gl X g) (hm : X.mg g = some (.ref f)) (hk : PySem.W.keepIn X.K (.ref f) = true) (hb : Binds X.K fd ps [])
    (ha : PA X (e :: es) t) (hdb : (g == ("__debug__" : Str)) = false := by decide) (he : starEach (e :: es) X.env = (false, eval e X.env) :: starEach es X.env := by rfl) (hpl : (backTo pos (starEach es X.env)).any (·.1) = false := by rfl) :
    PE X (.Call (.Name g p) (e :: es) [] pos) (tCallH (sp x) t) := by
  intro pins s σ H Q I h
  refine wpAny_Call_Name_kw (ld_glob I hg hm ?_ hdb)
  refine PySem.W.callWith_K (h₀ := X.base) I.ok.mod.kin hk (thn (ha pos pins s σ H _ I h) fun us s1 ⟨vs, H1, I1, r, q⟩ => ⟨I1.kIn, ?_⟩) he hpl
  have hl : (us ++ []).length = ps.length := by rw [List.append_nil, ← r.length]; exact F.len _ _ _ _ _ q
  have hb' := hb s1 us I1.kIn hl
  rw [List.append_nil] at hb'
  refine wpAny_call (codeAny_mono (F.run x X.A X.stack s1 H1 ⟨us, []⟩ us vs Q hh hr I1.env0 hb' r q) fun r s' hq => ?_)
  cases r with
  | error e => exact False.elim hq
  | ok fl =>
    cases fl with
    | ret u => exact I1.after hq
    | next => exact False.elim hq
    | brk => exact False.elim hq
    | cont => exact False.elim hq
end L2
namespace L2
open PySem PySem.Spec PyProof.Rows
def RaiserP (X : Cx) (E : XK) : Prop := ∀ (pins : List (Addr × Obj)) (σ : St) (H1 : Hp) (s1 : Shared) (h' : Heap) (e C : Addr) (args : List Value), Inv X pins σ H1 s1 → Heap.MadeExcOf s1.heap h' e (.ref C) args → E (.ref C) (some e) (upd H1 e (ExcD e C none)) → X.xe (.ref e) { s1 with heap := h' }
section
variable {P : Program} {w : World} {K : PySem.W.Frag} {mg : Str → Option Value} {base : Heap} {N : List Str} {qual : Str} {sc : Scope} {f : Addr} {cd : Value} {A : Around} {outer : List Env} {s : Shared} {H : Hp} {E : XK}
theorem raiserP_of : RaiserP (cxOf (CXD P w) P w K mg base N qual sc f cd A outer s H E) E := by
  intro pins σ H1 s1 h' e C args I hx hE
  show wpAny (model P w) (A.deeper (envOfC qual sc s.heap.objs.size f cd)) (leaving (envOfC qual sc s.heap.objs.size f cd) (.ref e)) _ _ _
  have hL : ∀ b o, s.heap.get? b = some o → b ∉ frs outer → b ∉ frs (envOfC qual sc s.heap.objs.size f cd :: outer) := fun b o q hb z => by
    rcases List.mem_cons.mp (I.stkSub b z) with z | z
    · have lt := Nat.lt_of_lt_of_le (Heap.lt_size q) I.ok.above
      rw [z] at lt
      exact absurd lt (Nat.lt_irrefl _)
    · exact hb z
  have nex : H1 e = none := by
    cases q : H1 e with
    | none => rfl
    | some o =>
      obtain ⟨u, hu⟩ := (I.hok e o q).there
      rw [hx.new] at hu
      cases hu
  have FF : s1.heap.FunFrames (PySem.W.hideAll s1.heap (frs (envOfC qual sc s.heap.objs.size f cd :: outer))) (envOfC qual sc s.heap.objs.size f cd :: outer) := PySem.W.funFrames_hide I.stack in_frs
  have two1 := wpAny_leaves_madeW (M := model P w) (A := A.deeper (envOfC qual sc s.heap.objs.size f cd)) (s := { s1 with heap := h' }) (E := fun e' s'' => CXD P w outer H s E e' s'') (Q := fun _ s2 => ∃ h2 t, s2 = { s1 with heap := h2 } ∧ Heap.FlyingW (PySem.W.hideAll s1.heap (frs (envOfC qual sc s.heap.objs.size f cd :: outer))) outer e (.ref C) (.ref t) h2 ∧ h'.UpToSlots h2)
    (base := PySem.W.hideAll s1.heap (frs (envOfC qual sc s.heap.objs.size f cd :: outer))) (h := s1.heap) (args := args) I.ok.frames rfl (fun b o q => PySem.W.of_hideAll _ q) FF hx fun h2 t x1 x2 x3 x4 => ⟨h2, t, rfl, x1, x4⟩
  obtain ⟨t, ho, _⟩ := hx.there
  have two2 : wpAny (model P w) (A.deeper (envOfC qual sc s.heap.objs.size f cd)) (leaving (envOfC qual sc s.heap.objs.size f cd) (.ref e)) (fun _ s2 => TrD s2.heap e none) (fun _ _ => True) { s1 with heap := h' } := by
    unfold leaving
    exact wpAny_bind (wpAny_mono (note_first (s := { s1 with heap := h' }) I.ok.frames (FF.of_keeps fun b o hb _ => ⟨o, hx.keeps b o hb, rfl⟩) rfl ho rfl rfl rfl rfl) (fun _ _ z => flight_kd z) fun _ _ z => z)
  refine two two1 two2 ?_
  rintro _ _ ⟨h2, t2, rfl, x1, x4⟩ tr
  refine ⟨e, C, none, H1, rfl, ⟨I.os, I.bare, ⟨_, _, x1, hide_hok I, fun b o q n hb => ?_, fun b o q hb => ?_⟩, fun b o q hb => ?_, fun b o q n => I.base.free b o q n (by simp [cxOf]), I.base.tups, I.base.frzs, I.base.tbls, nex⟩, tr, hE⟩
  · exact PySem.W.hideAll_get _ (I.base.keep b o q n hb (by simp [cxOf])) (hL b o q hb)
  · obtain ⟨o', q'⟩ := I.base.there b o q (by simp [cxOf])
    exact ⟨o', PySem.W.hideAll_get _ q' (hL b o q hb)⟩
  · have n0 := I.ok.frf b hb
    obtain ⟨sl, q1⟩ := I.base.slot b o q n0 hb (by simp [cxOf])
    obtain ⟨_, o2, ho2, hd2⟩ := I.ok.funs.mem hb
    have e2 : o2 = o := by
      rw [show (cxOf (CXD P w) P w K mg base N qual sc f cd A outer s H E).s₀ = s from rfl, q] at ho2
      exact (Option.some.inj ho2).symm
    subst e2
    obtain ⟨sl2, q2⟩ := x4 b _ (hx.keeps _ _ q1) hd2
    exact ⟨sl2, q2⟩
end
def tRaiseP (C : Addr) (E : XK) (ta : TA) : TS := fun _ σ H => ta σ H fun vs H1 => vs.length ≤ sizeLine ∧ ∀ e, H1 e = none → E (.ref C) (some e) (upd H1 e (ExcD e C none))
section
variable {X : Cx} {E : XK} {C : Addr} {x : Str} {np cpos pos : Pos} {e₀ : Expr} {rest : List Expr} {ta : TA}
theorem ps_raiseP (R : RaiserP X E) (hc : X.calm = true) (hg : Gl X x) (hm : X.mg x = some (.ref C)) (q : PySem.W.excIn X.K C mroV "ValueError.__new__" = true) (ha : PA X (e₀ :: rest) ta)
    (he : starEach (e₀ :: rest) X.env = (false, eval e₀ X.env) :: starEach rest X.env := by rfl) (hpl : (backTo cpos (starEach rest X.env)).any (·.1) = false := by rfl) (hdb : (x == ("__debug__" : Str)) = false := by decide) :
    PS X (.Raise (some (.Call (.Name x np) (e₀ :: rest) [] cpos)) none pos) (tRaiseP C E ta) := by
  intro pins s σ H D I h
  obtain ⟨bm, N, nm, qn, bs, hdct, sn, sub, ab, col, dd, k0, k1, k2, k3, k5, mN, hC, hN, hni, T⟩ := exc_obj I.mod.kin q
  refine wpAny_Raise_call_subT (C := C) (nm := nm) (q := qn) (N := N) (bs := bs) (bm := bm) (hdct := hdct) (sn := sn) (sub := sub) (ab := ab) (col := col) (dd := dd) (k0 := k0) (k1 := k1) (k2 := k2) (k3 := k3) (k5 := k5) PySem.F.excBase_ValueError (mN := mN)
    (T.hasType PySem.F.excBase_ValueError.hasBase) (I.ok.hd hc) ?_ hni (ld_glob I hg hm ⟨rfl, ?_⟩ hdb)
  · rw [he]
    show (false || (backTo cpos (starEach rest X.env)).any (·.1)) = false
    rw [hpl]
    rfl
  · have h1 := ha cpos pins s σ H _ I h
    rw [he] at h1 ⊢
    refine Calls.evalArgs_plain (thn h1 fun us s2 ⟨vs, H1, I1, r1, hl, q1⟩ => ⟨rfl, by rw [← r1.length]; exact hl, I1.bk _ _ hC, hN.keeps I1.bk, T.keeps I1.bk, fun h' e hm' => ?_⟩)
    refine R pins σ H1 s2 h' e C us I1 hm' (q1 e ?_)
    cases z : H1 e with
    | none => rfl
    | some o =>
      obtain ⟨u, hu⟩ := (I1.hok e o z).there
      rw [hm'.new] at hu
      cases hu
end
def KxP (G H : Hp) (C : Addr) (E : XK) : Prop := ∀ x G' H', Step G H G' H' → H' x = none → E (.ref C) (some x) (upd H' x (ExcD x C none))
section
variable (P : Program) (w : World) (K : PySem.W.Frag) (mg : Str → Option Value) (base : Heap) (N : List Str) (qual : Str) (sc : Scope) (f : Addr) (k : Nat)
def RzP (sts : List Stmt) (ρ : En) (C : Addr) : Prop := ∃ τ : IxD k qual sc f → TS, (∀ i, PSs (cxXD P w K mg base N qual sc f k i) sts (τ i)) ∧ ∀ i D σ G0 H0 G H, RS K G0 H0 G H ρ σ → KxP G0 H0 C i.E → τ i D σ H
end
section
variable {P : Program} {w : World} {K : PySem.W.Frag} {mg : Str → Option Value} {base : Heap} {N : List Str} {qual : Str} {sc : Scope} {f : Addr} {k : Nat} {ρ ρ1 : En} {st : Stmt} {sts A B : List Stmt} {C : Addr} {c : Expr} {pos : Pos}
theorem rzP_raise {x n : Str} {j : Nat} {np cpos epos : Pos} (hm : mg x = some (.ref C)) (q : PySem.W.excIn K C mroV "ValueError.__new__" = true) (hg : ∀ i, Gl (cxXD P w K mg base N qual sc f k i) x := by intro _; rfl)
    (hdb : (x == ("__debug__" : Str)) = false := by decide) : RzP P w K mg base N qual sc f k (.Raise (some (.Call (.Name x np) [.Constant (.str n) j epos] [] cpos)) none pos :: sts) ρ C := by
  refine ⟨fun i => tSeq (tRaiseP C i.E (tCons (tC (.str n)) tNil)) tNever, fun i => pss_cons (ps_raiseP (X := cxXD P w K mg base N qual sc f k i) raiserP_of rfl (hg i) hm q (pa_cons pe_str pa_nil) (hdb := hdb)) pss_never, fun i D σ G0 H0 G H r kx => ?_⟩
  obtain ⟨fp, r⟩ := r
  have big : 1 ≤ sizeLine := by decide
  exact ⟨big, fun e he => kx e G H r.st he⟩
end
def tTryH (K : PySem.W.Frag) (D : Addr) (i : Nat) (tb : (St → XK) → TS) (th : Addr → TS) : TS := fun F σ H =>
  tb (fun σ1 c ax H1 => ∃ x C, c = .ref C ∧ ax = some x ∧ PySem.W.subIn K (.ref C) (.ref D) = some true ∧
    th x { nx := fun σ2 H2 => F.nx (σ2.set i none) H2, rt := F.rt, bk := fun σ2 H2 => F.bk (σ2.set i none) H2, ct := fun σ2 H2 => F.ct (σ2.set i none) H2 } (σ1.set i (some (.ref x))) H1) F σ H
section
variable {X : Cx} {D : Addr} {i : Nat} {n x : Str} {np hpos pos : Pos} {body suite : List Stmt} {b₀ : Stmt} {tb : (St → XK) → TS} {th : Addr → TS} {L : Addr} {outer : List Env}
theorem ps_tryH (hN : X.N.Nodup) (hi : X.N[i]? = some n) (hl : X.env.scope.names.lookup n = some .local) (hst : X.stack = X.env :: outer) (hfr : X.env.frame = some L) (hex : X.ex = []) (hg : Gl X x) (hm : X.mg x = some (.ref D))
    (ht : PySem.W.typeIn X.K (.ref D) = some (.type "type")) (hD : PySem.W.isClsIn X.K D = true) (hb : PySem.W.subIn X.K (.ref D) (.type "BaseException") = some true)
    (body_ok : ∀ (E : St → XK) (XE : Value → Shared → Prop) (pn : List (Addr × Obj)), PassesS (CXD X.prog X.w) (X.inTry XE pn) E → PSs (X.inTry XE pn) body (tb E))
    (suite_ok : ∀ a, PSs (X.suite (.ref a)) (b₀ :: suite) (th a)) (hdb : (x == ("__debug__" : Str)) = false := by decide) :
    PS X (.Try body [.ExceptHandler (some (.Name x np)) (some n) (b₀ :: suite) hpos] [] [] pos) (tTryH X.K D i tb th) := by
  intro pins s σ H F I h
  refine wpAny_Try_except ?_
  let XE : Value → Shared → Prop := fun e s₁ => wpAny (model X.prog X.w) X.A (noteFrame e X.env) (fun _ s₂ => wpAny (model X.prog X.w) X.A (setFlight e none) (fun _ s₃ =>
    wpAny (model X.prog X.w) X.A (handleBy e X.env [.ExceptHandler (some (.Name x np)) (some n) (b₀ :: suite) hpos]) (SP X pins F) X.xe s₃) X.xe s₂) X.xe s₁
  have body1 := body_ok _ XE (X.pn ++ pins) ?pass [] s σ H F (I.inTry XE) h
  case pass =>
    rintro pins' σ1 H1 s1 ev s' I1 ⟨a, C, d0, H', rfl, fl, trd, a', C', e1, e2, hsub, hth⟩
    cases e1
    cases e2
    have hI1 : Inv X pins σ1 H1 s1 := I1.ofTry
    obtain ⟨B, a0, fw, ok, kp, th'⟩ := fl.ex
    have fw' : Heap.FlyingW B (X.env :: outer) a (.ref C) a0 s'.heap := hst ▸ fw
    show wpAny (model X.prog X.w) X.A (noteFrame (.ref a) X.env) _ _ _
    refine two (Q := fun _ s4 => ∃ h4, s4 = { s' with heap := h4 } ∧ Heap.HeldW B (X.env :: outer) a (.ref C) a0 L h4 ∧ s'.heap.UpToSlots h4) (wpAny_looks_onW (hst ▸ I.ok.frames) hfr fw' fun h₄ held₄ sm₄ => ⟨h₄, rfl, held₄, sm₄⟩) (note_next (E := fun _ _ => True) (hst ▸ I.ok.frames) hfr fw' trd) ?_
    rintro _ _ ⟨h₄, rfl, held₄, sm₄⟩ trd₄
    refine two (Q := fun _ s5 => ∃ h5, s5 = { s' with heap := h5 } ∧ Heap.FlyingW B (X.env :: outer) a (.ref C) a0 h5 ∧ h₄.UpToSlots h5) (wpAny_landsW held₄ fun h₅ fw₅ sm₅ => ⟨h₅, rfl, fw₅, sm₅⟩) (flight_kd (E := fun _ _ => True) trd₄) ?_
    rintro _ _ ⟨h₅, rfl, fw₅, sm₅⟩ trd₅
    have next : ∀ h6, Heap.FlyingW B (X.env :: outer) a (.ref C) a0 h6 → s'.heap.UpToSlots h6 → Inv X pins σ1 H' { s' with heap := h6 } := fun h6 fw6 sm6 => by
      have hFF : s'.heap.FunFrames B X.stack := fw.2.2.1
      refine hI1.fly (x := a) (C := C) ⟨fl.os, fl.bare, ⟨B, a0, hst ▸ fw6, ok, kp, th'⟩, fun b o q hb => ?_, fl.free, fl.tups, fl.frzs, fl.tbls, fl.nox⟩
      obtain ⟨sl, q1⟩ := fl.slot b o q hb
      obtain ⟨_, o2, ho2, hd2⟩ := hFF.mem hb
      rw [q1] at ho2
      cases ho2
      obtain ⟨sl2, q2⟩ := sm6 b _ q1 hd2
      exact ⟨sl2, q2⟩
    have I5 := next h₅ fw₅ (sm₄.trans sm₅)
    obtain ⟨oe, he, hec⟩ := fw₅.there
    refine wpAny_handleBy_cons (codeAny_handlers_test ?_) (by intro q; cases q)
    refine Calls.Name_function_global I.ok.kind hg (Calls.loadGlobal_global (by rw [I.ok.glob]; exact I5.mod.glob.keeps I5.bk) hm ?_) hdb
    refine exc_matches (K := X.K) I5.kIn he hec ht hD hb hsub ?_
    refine codeAny_handlers_suite_as ?_
    refine two (Q := fun _ s6 => ∃ h6, s6 = { s' with heap := h6 } ∧ Heap.FlyingW B (X.env :: outer) a (.ref C) a0 h6 ∧ h₅.UpToSlots h6) (lands_againW fw₅ fun h₆ fw₆ sm₆ => ⟨h₆, rfl, fw₆, sm₆⟩) (flight_kd (E := fun _ _ => True) trd₅) ?_
    rintro _ _ ⟨h₆, rfl, fw₆, sm₆⟩ trd₆
    have I6 := next h₆ fw₆ ((sm₄.trans sm₅).trans sm₆)
    obtain ⟨oe6, vs6, he6, hc6, hd6, h06⟩ := fw₆.first
    have hx6 : oe6.dict = d0 ∧ vs6[2]? = some .none := by
      obtain ⟨o, vs, T, oT, ts, z, z1, z2, _⟩ := trd₆
      have z : h₆.get? a = some o := z
      rw [he6] at z
      cases z
      rw [hd6] at z1
      cases z1
      exact z2
    have nfr : ∀ b o, s1.heap.get? b = some o → b ≠ a := fun b o q z => by
      subst z
      by_cases hb : b ∈ frs X.stack
      · obtain ⟨_, o2, ho2, hd2⟩ := (show h₆.FunFrames B X.stack from hst ▸ fw₆.2.2.1).mem hb
        rw [he6] at ho2
        cases ho2
        exact hd2 _ hd6
      · obtain ⟨o', q'⟩ := th' b o q hb
        rw [fw.2.1] at q'
        cases q'
    have h0 : X.s₀.heap.get? a = none := by
      cases q : X.s₀.heap.get? a with
      | none => rfl
      | some o =>
        obtain ⟨o', q'⟩ := hI1.base.there a o q (by rw [hex]; simp)
        exact absurd rfl (nfr a o' q')
    have I7 : Inv X pins σ1 (upd H' a (ExcD a C d0)) { s' with heap := h₆ } := by
      refine I6.track fl.nox h0 (fun z => ?_) (fun y c e z => ?_) (fun p hp z => ?_) ⟨⟨oe6, vs6, he6, hc6, hd6, hx6⟩, ⟨oe6, he6⟩, fun h1 h2 ⟨o, vs, q1, q2⟩ k => ⟨o, vs, k _ q1, q2⟩⟩
      · obtain ⟨m, ⟨o, _, _, ho, _⟩, _⟩ := hI1.loc
        exact nfr _ o ho z.symm
      · obtain ⟨v, o, ho, _⟩ := hI1.cell y c e
        exact nfr c o ho z
      · exact nfr p.1 p.2 (hI1.pin p hp).1 z
    refine store_ok I7 hN hi (.inl hl) (v := .ref a) rfl (fun s8 I8 => ?_) (.inr hl)
    refine wpAny_mono (suite_ok a pins s8 _ _ _ (I8.suite (.ref a)) hth) (fun fl8 s9 hq => ?_) (fun _ _ z => False.elim z)
    have hd9 : X.calm = true → X.A.handled = none := I.ok.hd
    cases fl8 with
    | next =>
      obtain ⟨σ9, H9, I9, q9⟩ := hq
      exact (I9.ofSuite hd9).goes hN hi hl fun s10 I10 => ⟨_, _, I10, q9⟩
    | brk =>
      obtain ⟨σ9, H9, I9, q9⟩ := hq
      exact (I9.ofSuite hd9).goes hN hi hl fun s10 I10 => ⟨_, _, I10, q9⟩
    | cont =>
      obtain ⟨σ9, H9, I9, q9⟩ := hq
      exact (I9.ofSuite hd9).goes hN hi hl fun s10 I10 => ⟨_, _, I10, q9⟩
    | ret u =>
      obtain ⟨v, σ9, H9, I9, r9, q9⟩ := hq
      exact (I9.ofSuite hd9).goes hN hi hl fun s10 I10 => ⟨v, _, _, I10, r9, q9⟩
  refine wpAny_mono body1 (fun fl8 s9 hq => ?_) (fun e s9 z => z)
  cases fl8 with
  | next =>
    obtain ⟨σ9, H9, I9, q9⟩ := hq
    exact wpAny_execs_nil ⟨σ9, H9, I9.ofTry, q9⟩
  | brk =>
    obtain ⟨σ9, H9, I9, q9⟩ := hq
    exact ⟨σ9, H9, I9.ofTry, q9⟩
  | cont =>
    obtain ⟨σ9, H9, I9, q9⟩ := hq
    exact ⟨σ9, H9, I9.ofTry, q9⟩
  | ret u =>
    obtain ⟨v, σ9, H9, I9, r9, q9⟩ := hq
    exact ⟨v, σ9, H9, I9.ofTry, r9, q9⟩
end
section
variable {ι : Type} {F : Fam ι} {ρ ρ' : En} {D : Addr} {i : Nat} {n x : Str} {np hpos pos : Pos} {body suite : List Stmt} {b₀ : Stmt}
end
end L2
namespace L2
open PySem PySem.Spec PyProof.Rows
end L2
namespace L2
open PySem PySem.Spec PyProof.Rows
section
variable {P : Program} {w : World} {K : PySem.W.Frag} {mg : Str → Option Value} {base : Heap} {N : List Str} {qual : Str} {sc : Scope} {f : Addr} {cd : Value} {A : Around} {outer : List Env} {s : Shared} {H : Hp} {E : XK}
theorem passes_onD : Passes (CXD P w) (cxOf (CXD P w) P w K mg base N qual sc f cd A outer s H E) E := by
  rintro pins σ H1 s1 ev s' I ⟨x, C, d, H', rfl, F, tr, hE⟩
  show wpAny (model P w) (A.deeper (envOfC qual sc s.heap.objs.size f cd)) (leaving (envOfC qual sc s.heap.objs.size f cd) (.ref x)) _ _ _
  have hL : ∀ b o, s.heap.get? b = some o → b ∉ frs outer → b ∉ frs (envOfC qual sc s.heap.objs.size f cd :: outer) := fun b o q hb z => by
    rcases List.mem_cons.mp (I.stkSub b z) with z | z
    · have lt := Nat.lt_of_lt_of_le (Heap.lt_size q) I.ok.above
      rw [z] at lt
      exact absurd lt (Nat.lt_irrefl _)
    · exact hb z
  obtain ⟨B, a0, fl, ok, kp, th⟩ := F.ex
  have two1 := wpAny_leaves_onW (M := model P w) (A := A.deeper (envOfC qual sc s.heap.objs.size f cd)) (s := s') (E := fun e' s'' => CXD P w outer H s E e' s'') (Q := fun _ s2 => ∃ h2, s2 = { s' with heap := h2 } ∧ Heap.FlyingW B outer x (.ref C) a0 h2 ∧ s'.heap.UpToSlots h2) I.ok.frames rfl fl fun h2 y1 y2 => ⟨h2, rfl, y1, y2⟩
  have two2 : wpAny (model P w) (A.deeper (envOfC qual sc s.heap.objs.size f cd)) (leaving (envOfC qual sc s.heap.objs.size f cd) (.ref x)) (fun _ s2 => TrD s2.heap x d) (fun _ _ => True) s' := by
    unfold leaving
    exact wpAny_bind (wpAny_mono (note_next I.ok.frames rfl fl tr) (fun _ _ z => flight_kd z) fun _ _ z => z)
  refine two two1 two2 ?_
  rintro _ _ ⟨h2, rfl, y1, y2⟩ tr2
  refine ⟨x, C, d, H', rfl, ⟨F.os.trans I.os, F.bare, ⟨B, a0, y1, ok, fun b o q n hb => ?_, fun b o q hb => ?_⟩, fun b o q hb => ?_, fun b o q n => ?_, fun b xs q => F.tups b xs (I.base.tups b xs q), fun b o u q => F.frzs b o u (I.base.frzs b o u q), fun b ps q => ?_, F.nox⟩, tr2, hE⟩
  · exact kp b o (I.base.keep b o q n hb (by simp [cxOf])) (I.base.free b o q n (by simp [cxOf])) (hL b o q hb)
  · obtain ⟨o', q'⟩ := I.base.there b o q (by simp [cxOf])
    exact th b o' q' (hL b o q hb)
  · have n0 := I.ok.frf b hb
    obtain ⟨sl, q1⟩ := I.base.slot b o q n0 hb (by simp [cxOf])
    have hb2 : b ∈ frs (envOfC qual sc s.heap.objs.size f cd :: outer) := by
      obtain ⟨env, he, hf⟩ := List.mem_filterMap.mp hb
      exact List.mem_filterMap.mpr ⟨env, List.mem_cons_of_mem _ he, hf⟩
    obtain ⟨sl1, q2⟩ := F.slot b _ q1 hb2
    obtain ⟨_, o2, ho2, hd2⟩ := I.ok.funs.mem hb
    have e2 : o2 = o := by
      rw [show (cxOf (CXD P w) P w K mg base N qual sc f cd A outer s H E).s₀ = s from rfl, q] at ho2
      exact (Option.some.inj ho2).symm
    subst e2
    obtain ⟨sl2, q3⟩ := y2 b _ q2 hd2
    exact ⟨sl2, q3⟩
  · obtain ⟨o', q'⟩ := I.base.there b o q (by simp [cxOf])
    exact F.free b o' q' (I.base.free b o q n (by simp [cxOf]))
  · obtain ⟨m1, e1⟩ := I.base.tbls b ps q
    obtain ⟨m2, e2⟩ := F.tbls b _ e1
    exact ⟨m1 ++ m2, by rw [e2, Array.append_assoc]⟩
end
def spXG (K : PySem.W.Frag) (R : List Dv → (Hp → Hp → XK → Prop) → Prop) : Sp := fun vs H _ E => ∃ G ds Ξ, Same G H ∧ HvL K G ds vs ∧ R ds Ξ ∧ Ξ G H E
def Later (Ξ : Hp → Hp → XK → Prop) : Prop := ∀ G H G' H' E, Step G H G' H' → Ξ G H E → Ξ G' H' E
theorem later_P {C : Addr} : Later fun G H E => KxP G H C E := fun _ _ _ _ _ st k x G' H' s' h => k x G' H' (st.trans s') h
theorem later_D {C : Addr} {n : Str} {v : V} : Later fun G H E => KxD G H C n v E := fun _ _ _ _ _ st k x dx G' H' s' h1 h2 h3 => k x dx G' H' (st.trans s') h1 h2 h3
section
variable (P : Program) (w : World) (K : PySem.W.Frag) (mg : Str → Option Value) (base : Heap) (N : List Str) (qual : Str) (sc : Scope) (f : Addr) (k : Nat)
def RzG (sts : List Stmt) (ρ : En) (Ξ : Hp → Hp → XK → Prop) : Prop := ∃ τ : IxD k qual sc f → TS, (∀ i, PSs (cxXD P w K mg base N qual sc f k i) sts (τ i)) ∧ ∀ i D σ G0 H0 G H, RS K G0 H0 G H ρ σ → Ξ G0 H0 i.E → τ i D σ H
end
section
variable {P : Program} {w : World} {K : PySem.W.Frag} {mg : Str → Option Value} {base : Heap} {N : List Str} {qual : Str} {sc : Scope} {f : Addr} {k : Nat} {ρ ρ1 : En} {st : Stmt} {sts A B : List Stmt} {C : Addr} {c : Expr} {pos : Pos} {Ξ : Hp → Hp → XK → Prop}
theorem RzP.g (h : RzP P w K mg base N qual sc f k sts ρ C) : RzG P w K mg base N qual sc f k sts ρ fun G H E => KxP G H C E := h
theorem RzD.g {n : Str} {v : V} (h : RzD P w K mg base N qual sc f k sts ρ C n v) : RzG P w K mg base N qual sc f k sts ρ fun G H E => KxD G H C n v E := h
theorem rzg_cons (h1 : Rn (famM P w K mg base N qual sc f k) st ρ (.nx ρ1)) (h2 : RzG P w K mg base N qual sc f k sts ρ1 Ξ) : RzG P w K mg base N qual sc f k (st :: sts) ρ Ξ := by
  obtain ⟨τ, x, y⟩ := h1
  obtain ⟨τ', x', y'⟩ := h2
  exact ⟨fun i => tSeq τ (τ' i), fun i => pss_cons (PS.nox (x i)) (x' i), fun i D σ G0 H0 G H r kx => y _ σ G0 H0 G H r fun σ1 G1 H1 r1 => y' i D σ1 G0 H0 G1 H1 r1 kx⟩
theorem rzg_if (hc : EtS (famM P w K mg base N qual sc f k) c ρ true) (h : RzG P w K mg base N qual sc f k A ρ Ξ) : RzG P w K mg base N qual sc f k (.If c A B pos :: sts) ρ Ξ := by
  obtain ⟨τ, y, z⟩ := hc
  obtain ⟨τ', x', y'⟩ := h
  refine ⟨fun i => tSeq (tIfS τ (τ' i) tNever) tNever, fun i => pss_cons (ps_if (PT.nox (y i)) (x' i) pss_never) pss_never, fun i D σ G0 H0 G H r kx => ?_⟩
  obtain ⟨fp, r⟩ := r
  exact z σ G H fp _ r.st.s r.own r.g fun G1 H1 s1 => iteT (y' i _ σ G0 H0 G1 H1 ⟨fp, r.st.trans s1, r.own.mono s1.g s1.h, r.own.off s1 r.g, r.n, r.d⟩ kx)
theorem call_rz {g : Str} {j : Nat} {f' : Addr} {fd' : FuncData} {ps' : List Str} {R : List Dv → (Hp → Hp → XK → Prop) → Prop} {e : Expr} {es : List Expr} {ts : List Tr} {p2 p3 : Pos} (Fn : Kn P w K mg base (CXD P w) j g f' fd' ps' (spXG K R)) (hj : j ≤ k) (ha : EvA (famM P w K mg base N qual sc f k) (e :: es) (pk ρ) ts) (hR : R (ers ts) Ξ) (la : Later Ξ)
    (hg : ∀ i, Gl (cxXD P w K mg base N qual sc f k i) g := by intro _; rfl) (hdg : (g == ("__debug__" : Str)) = false := by decide)
    (he : ∀ i, starEach (e :: es) (cxXD P w K mg base N qual sc f k i).env = (false, eval e (cxXD P w K mg base N qual sc f k i).env) :: starEach es (cxXD P w K mg base N qual sc f k i).env := by intro _; rfl) (hpl : ∀ i, (backTo p3 (starEach es (cxXD P w K mg base N qual sc f k i).env)).any (·.1) = false := by intro _; rfl) :
    ∃ τ : IxD k qual sc f → TE, (∀ i, PE (cxXD P w K mg base N qual sc f k i) (.Call (.Name g p2) (e :: es) [] p3) (τ i)) ∧ ∀ i (Q : VK) σ G0 H0 G H, RS K G0 H0 G H ρ σ → Ξ G0 H0 i.E → τ i σ H Q := by
  obtain ⟨ta, ya, za⟩ := ha.use
  have ya' : ∀ i, PA (cxXD P w K mg base N qual sc f k i) (e :: es) ta := fun i p pins s σ H Q I hw => wpAny_mono (ya i p pins s σ H Q (I.wish _) hw) (fun _ _ ⟨v, H', I', r, q⟩ => ⟨v, H', I'.unwish, r, q⟩) fun _ _ z => False.elim z
  refine ⟨fun i => tCallS (spXG K R) [] (fun _ => i.E) ta, fun i => pe_callS (X := cxXD P w K mg base N qual sc f k i) Fn.ok (i.hr.mono hj) (hg i) Fn.mgx Fn.kp Fn.bd .nil (Passes.s passes_onD) (ya' i) hdg (he i) (hpl i), fun i Q σ G0 H0 G H r kx => ?_⟩
  obtain ⟨fp, r⟩ := r
  have s0 : Step G0 H0 (frzd G H fp) H := r.st.frz ⟨r.n, r.g, r.d⟩
  refine za σ (frzd G H fp) H _ (frzd_sub r.st.s) (r.own.pk (frzd_same r.g) fun a ha => frzd_in ha) fun vs G1 H1 s1 hx => ?_
  exact ⟨G1, ers ts, Ξ, s1.s, by rw [List.append_nil]; exact hx, hR, la _ _ _ _ _ (s0.trans s1) kx⟩
theorem rzg_ret {g : Str} {j : Nat} {f' : Addr} {fd' : FuncData} {ps' : List Str} {R : List Dv → (Hp → Hp → XK → Prop) → Prop} {e : Expr} {es : List Expr} {ts : List Tr} {p2 p3 : Pos} (Fn : Kn P w K mg base (CXD P w) j g f' fd' ps' (spXG K R)) (hj : j ≤ k) (ha : EvA (famM P w K mg base N qual sc f k) (e :: es) (pk ρ) ts) (hR : R (ers ts) Ξ) (la : Later Ξ)
    (hg : ∀ i, Gl (cxXD P w K mg base N qual sc f k i) g := by intro _; rfl) (hdg : (g == ("__debug__" : Str)) = false := by decide)
    (he : ∀ i, starEach (e :: es) (cxXD P w K mg base N qual sc f k i).env = (false, eval e (cxXD P w K mg base N qual sc f k i).env) :: starEach es (cxXD P w K mg base N qual sc f k i).env := by intro _; rfl) (hpl : ∀ i, (backTo p3 (starEach es (cxXD P w K mg base N qual sc f k i).env)).any (·.1) = false := by intro _; rfl) :
    RzG P w K mg base N qual sc f k (.Return (some (.Call (.Name g p2) (e :: es) [] p3)) pos :: sts) ρ Ξ := by
  obtain ⟨τ, x, y⟩ := call_rz (p2 := p2) (p3 := p3) Fn hj ha hR la hg hdg he hpl
  exact ⟨fun i => tSeq (tRet (τ i)) tNever, fun i => pss_cons (ps_ret (x i)) pss_never, fun i D σ G0 H0 G H r kx => y i _ σ G0 H0 G H r kx⟩
theorem rzg_expr {g : Str} {j : Nat} {f' : Addr} {fd' : FuncData} {ps' : List Str} {R : List Dv → (Hp → Hp → XK → Prop) → Prop} {e : Expr} {es : List Expr} {ts : List Tr} {p2 p3 : Pos} (Fn : Kn P w K mg base (CXD P w) j g f' fd' ps' (spXG K R)) (hj : j ≤ k) (ha : EvA (famM P w K mg base N qual sc f k) (e :: es) (pk ρ) ts) (hR : R (ers ts) Ξ) (la : Later Ξ)
    (hg : ∀ i, Gl (cxXD P w K mg base N qual sc f k i) g := by intro _; rfl) (hdg : (g == ("__debug__" : Str)) = false := by decide)
    (he : ∀ i, starEach (e :: es) (cxXD P w K mg base N qual sc f k i).env = (false, eval e (cxXD P w K mg base N qual sc f k i).env) :: starEach es (cxXD P w K mg base N qual sc f k i).env := by intro _; rfl) (hpl : ∀ i, (backTo p3 (starEach es (cxXD P w K mg base N qual sc f k i).env)).any (·.1) = false := by intro _; rfl)
    (hsw : ∀ i, swapsWith (.Call (.Name g p2) (e :: es) [] p3) none pos.line (cxXD P w K mg base N qual sc f k i).env = pure false := by intro _; rfl) :
    RzG P w K mg base N qual sc f k (.Expr (.Call (.Name g p2) (e :: es) [] p3) pos :: sts) ρ Ξ := by
  obtain ⟨τ, x, y⟩ := call_rz (p2 := p2) (p3 := p3) Fn hj ha hR la hg hdg he hpl
  exact ⟨fun i => tSeq (tDrop (τ i)) tNever, fun i => pss_cons (ps_expr (x i) (hsw i)) pss_never, fun i D σ G0 H0 G H r kx => y i _ σ G0 H0 G H r kx⟩
theorem PI.up {X : Cx} {tg iter : Expr} {wi : TI} (h : PI X.nox tg iter wi) : PI X tg iter wi := fun pins s σ H R I hw =>
  wpAny_mono (h pins s σ H R (I.wish _) hw) (fun _ _ z => wpAny_mono z (fun _ _ ⟨it, fp, tn, J, H', e, I', T, st, fo, q⟩ => ⟨it, fp, tn, J, H', e, I'.unwish, T, st, fo, q⟩) fun _ _ z => False.elim z) fun _ _ z => False.elim z
theorem PG.up {X : Cx} {tg : Expr} {g : TG} (h : PG X.nox tg g) : PG X tg g := fun pins s σ H v u Q I r hw =>
  wpAny_mono (h pins s σ H v u Q (I.wish _) r hw) (fun _ _ ⟨σ', H', I', q⟩ => ⟨σ', H', I'.unwish, q⟩) fun _ _ z => False.elim z
def uX (X : Cx) (sts : List Stmt) : TS := fun D σ H => ∃ τ : TS, PSs X sts τ ∧ τ D σ H
theorem uX_ok {X : Cx} {sts : List Stmt} : PSs X sts (uX X sts) := fun pins s σ H D I ⟨τ, h, q⟩ => h pins s σ H D I q
theorem rzg_for {tg iter : Expr} {body : List Stmt} {its : List Dv} {js : List Nat} {sp : Dv → Option (List Dv)} (hi : EvIS (famM P w K mg base N qual sc f k) tg iter ρ its) (hg : EvG (famM P w K mg base N qual sc f k) tg js sp) (inv : Nat → En) (m : Nat) (h0 : inv 0 = ρ) (hlen : ∀ k, js.all (fun j => Nat.blt j (inv k).length) = true)
    (step : ∀ n d, n < m → its[n]? = some d → ∃ dd ρb, sp d = some dd ∧ Rns (famM P w K mg base N qual sc f k) body (setAll js (dd.map .fz) (inv n)) (.nx ρb) ∧ Fg ρb (inv (n + 1)))
    (last : ∃ d dd, its[m]? = some d ∧ sp d = some dd ∧ RzG P w K mg base N qual sc f k body (setAll js (dd.map .fz) (inv m)) Ξ) (la : Later Ξ)
    (hs : ∀ i x, foldedSetIterable iter (cxXD P w K mg base N qual sc f k i).env x = pure x := by intro _ _; rfl) : RzG P w K mg base N qual sc f k (.For tg iter body [] pos :: sts) ρ Ξ := by
  obtain ⟨wi, p, q⟩ := hi
  obtain ⟨g, pg, qg⟩ := hg
  obtain ⟨dm, ddm, hdm, hsm, τm, pm, qm⟩ := last
  have hml : m < its.length := (List.getElem?_eq_some_iff.mp hdm).1
  subst h0
  refine ⟨fun i => tSeq (tFor wi g (uX (cxXD P w K mg base N qual sc f k i) body)) tNever, fun i => pss_cons (ps_for (X := cxXD P w K mg base N qual sc f k i) PassesOwn.leaving rfl (PI.up (p i)) (PG.up (pg i)) uX_ok (hs i)) pss_never, fun i D σ G0 H0 G H r kx => ?_⟩
  obtain ⟨fp, r⟩ := r
  refine q σ G H fp _ r.st.s r.own r.g fun J G1 H1 s1 it => ?_
  have r1 : RSf K G0 H0 G1 H1 (inv 0) σ fp := ⟨r.st.trans s1, r.own.mono s1.g s1.h, r.own.off s1 r.g, r.n, r.d⟩
  have kb := la _ _ _ _ _ r1.base kx
  refine ⟨fun n m' σ' H' => m' = its.length - n ∧ n ≤ m ∧ ∃ G', RS K G1 (less H1 fp) G' H' (inv n) σ', ⟨_, rfl, Nat.zero_le _, G1, fp, r1.rebase⟩, ?_⟩
  rintro n m' σ' H' ⟨rfl, hn, G', r'⟩
  obtain ⟨fp', r'⟩ := r'
  obtain ⟨i1, i2⟩ := it n G' H' r'.st.g r'.st.s
  by_cases hlt : n < m
  · have hd : its[n]? = some its[n] := List.getElem?_eq_getElem (by omega)
    obtain ⟨j1, j2⟩ := i1 _ hd
    refine .inr ⟨j1, fun σ2 H2 => ∃ G2, RS K G1 (less H1 fp) G2 H2 (inv (n + 1)) σ2, fun σ2 H2 z => ⟨its.length - (n + 1), by omega, rfl, hlt, z⟩, fun x H3 y => ?_⟩
    obtain ⟨G3, s3, h3⟩ := j2 x H3 y
    obtain ⟨dd, ρb, e1, ⟨τ, pb, qb⟩, e2⟩ := step n _ hlt hd
    refine qg _ dd x σ' G3 H3 _ e1 s3.s h3 fun vs hvs => ⟨τ, PSs.nox (pb i), qb _ _ G1 (less H1 fp) G3 H3 (RS.setAll (blts (hlen n)) hvs ⟨fp', r'.st.trans s3, r'.own.mono s3.g s3.h, r'.own.off s3 r'.g, r'.n, r'.d⟩) fun σ4 G4 H4 r4 => ⟨G4, e2.rs r4⟩⟩
  · have en : n = m := by omega
    subst en
    obtain ⟨j1, j2⟩ := i1 dm hdm
    refine .inr ⟨j1, fun _ _ => False, fun _ _ z => z.elim, fun x H3 y => ?_⟩
    obtain ⟨G3, s3, h3⟩ := j2 x H3 y
    exact qg dm ddm x σ' G3 H3 _ hsm s3.s h3 fun vs hvs => ⟨τm i, pm i, qm i _ _ G1 (less H1 fp) G3 H3 (RS.setAll (blts (hlen n)) hvs ⟨fp', r'.st.trans s3, r'.own.mono s3.g s3.h, r'.own.off s3 r'.g, r'.n, r'.d⟩) kb⟩
theorem fn_okXG {x : Str} {st : Stmt} {dV : Value} {fd : FuncData} {ps : List Str} {R : List Dv → (Hp → Hp → XK → Prop) → Prop} (Fd : FunD K x qual st dV f fd) (S : FnScope N ps (defScope st)) (hl : ∀ dd Ξ, R dd Ξ → dd.length = ps.length)
    (hb : ∀ dd Ξ, R dd Ξ → RzG P w K mg base N qual (defScope st) f k (defBody st) (enD N dd) Ξ) : FnOk P w K mg base (CXD P w) (k + 1) f fd ps (spXG K R) := by
  refine Fd.okD S (fun vs H Q E ⟨G, dd, Ξ, s, h1, h2, h3⟩ => by rw [← h1.length]; exact hl dd Ξ h2) fun cdv A outer s H vs Q E hr h => ?_
  obtain ⟨G, dd, Ξ, s', h1, h2, h3⟩ := h
  obtain ⟨τ, x, y⟩ := hb dd Ξ h2
  refine ⟨_, x ⟨cdv, A, outer, s, H, E, hr⟩, y ⟨cdv, A, outer, s, H, E, hr⟩ _ (start N vs) G H G H ⟨[], .refl s', ?_, fun _ z => (nomatch z), fun _ z => (nomatch z), .nil⟩ h3⟩
  unfold start enD
  rw [← h1.length]
  exact ows_start h1
end
end L2
namespace L2
open PySem PySem.Spec PyProof.Rows
def Lands (Ξ : Hp → Hp → XK → Prop) (C : Addr) (W : Hp → Addr → Prop) : Prop := ∀ G H (E : XK), (∀ x H2, Same H H2 → W H2 x → E (.ref C) (some x) H2) → Ξ G H E
theorem lands_P {C : Addr} : Lands (fun G H E => KxP G H C E) C fun H x => H x = some (ExcD x C none) := fun G H E h x G' H' st hx => h x _ (st.h.trans (Same.new hx)) upd_same
theorem lands_D {C : Addr} {n : Str} {v : V} : Lands (fun G H E => KxD G H C n v E) C fun H x => ∃ dx, H x = some (ExcD x C (some dx)) ∧ H dx = some (.xd [(n, v)]) := fun G H E h x dx G' H' st hx hd ne => by
  have n2 : upd H' x (ExcD x C (some dx)) dx = none := by rw [upd_ne ne]; exact hd
  exact h x _ ((st.h.trans (Same.new hx)).trans (Same.new n2)) ⟨dx, by rw [upd_ne ne.symm]; exact upd_same, upd_same⟩
section
variable {ι : Type} {F : Fam ι} {ρ ρ' : En} {D : Addr} {i : Nat} {n x : Str} {np hpos pos : Pos} {body suite : List Stmt} {b₀ : Stmt}
end
section
variable {X : Cx}
end
section
variable {ι : Type} {F : Fam ι} {e a b c : Expr} {es : List Expr} {ρ : En} {t ta tb' : Tr} {ts : List Tr} {pos : Pos}
end
end L2
namespace L2
open PySem PySem.Spec PyProof.Rows
section
variable {ι : Type} {F : Fam ι} {ρ ρ' : En} {D : Addr} {i : Nat} {n x : Str} {np hpos pos : Pos} {body suite : List Stmt} {b₀ : Stmt}
theorem rn_tryGA {C : Addr} {j : Nat} {y : Str} {p1 : Pos} {W : Hp → Addr → Prop} {Ξ : Hp → Hp → XK → Prop} {g : Str} {k : Nat} {f : Addr} {fd : FuncData} {ps : List Str} {R : List Dv → (Hp → Hp → XK → Prop) → Prop} {e : Expr} {es : List Expr} {ts : List Tr} {p2 p3 p4 : Pos} {th : Addr → TS} (c : Cat F.K F.mg x D) (i : Nat) (Fn : Kn F.P F.w F.K F.mg F.base (CXD F.P F.w) k g f fd ps (spXG F.K R)) (hk : k ≤ F.room) (ha : EvA (famT F) (e :: es) (pk ρ) ts) (hR : R (ers ts) Ξ) (la : Lands Ξ C W) (sub : PySem.W.subIn F.K (.ref C) (.ref D) = some true) (hin : ρ[i]? = some none) (hin' : ρ'[i]? = some none)
    (hth : ∀ q a, PSs ((F.cx q).suite (.ref a)) (b₀ :: suite) (th a))
    (hs : ∀ (E : Ends) σ G0 H0 G H a, RS F.K G0 H0 G H ρ σ → σ[i]? = some (some (.ref a)) → W H a → (∀ σ' G' H', RS F.K G0 H0 G' H' ρ' σ' → E.nx σ' H') → th a E σ H)
    (hN : ∀ q, (F.cx q).N.Nodup) (hjn : ∀ q, (F.cx q).N[j]? = some y := by intro _; rfl) (hjl : ∀ q, Loc (F.cx q).env.scope y := by intro _; first | exact Or.inl rfl | exact Or.inr rfl) (hjf : ∀ q, (F.cx q).fn y = true ∨ (F.cx q).env.scope.names.lookup y = some .local := by intro _; first | exact .inl rfl | exact .inr rfl)
    (hsw : ∀ q : IxT ι, swapsWith (.Call (.Name g p2) (e :: es) [] p3) (some (.Name y p1)) p4.line ((famT F).cx q).env = pure false := by intro _; rfl)
    (hgg : ∀ q : IxT ι, Gl ((famT F).cx q) g := by intro _; rfl) (hdg : (g == ("__debug__" : Str)) = false := by decide)
    (he : ∀ q : IxT ι, starEach (e :: es) ((famT F).cx q).env = (false, eval e ((famT F).cx q).env) :: starEach es ((famT F).cx q).env := by intro _; rfl) (hpl : ∀ q : IxT ι, (backTo p3 (starEach es ((famT F).cx q).env)).any (·.1) = false := by intro _; rfl)
    (hi : ∀ q, (F.cx q).N[i]? = some n := by intro _; rfl) (hl : ∀ q, (F.cx q).env.scope.names.lookup n = some .local := by intro _; rfl)
    (hst : ∀ q, ∃ outer, (F.cx q).stack = (F.cx q).env :: outer := by intro _; exact ⟨_, rfl⟩) (hfr : ∀ q, ∃ L, (F.cx q).env.frame = some L := by intro _; exact ⟨_, rfl⟩) (hex : ∀ q, (F.cx q).ex = [] := by intro _; rfl) (hg : ∀ q, Gl (F.cx q) x := by intro _; rfl) (hdb : (x == ("__debug__" : Str)) = false := by decide) :
    Rn F (.Try [.Assign [.Name y p1] (.Call (.Name g p2) (e :: es) [] p3) p4] [.ExceptHandler (some (.Name x np)) (some n) (b₀ :: suite) hpos] [] [] pos) ρ (.nx ρ') := by
  obtain ⟨ta, ya, za⟩ := ha.use
  refine ⟨tTryH F.K D i (fun E => tAsg (tCallS (spXG F.K R) [] E ta) (gName j)) th, fun q => ?_, fun E σ G0 H0 G H r kk => ?_⟩
  · obtain ⟨outer, hst⟩ := hst q
    obtain ⟨L, hfr⟩ := hfr q
    have Fn' : Kn (F.cx q).prog (F.cx q).w (F.cx q).K (F.cx q).mg (F.cx q).base (CXD (F.cx q).prog (F.cx q).w) k g f fd ps (spXG F.K R) := by
      rw [F.hP q, F.hw q, F.hK q, F.hm q, F.hb q]
      exact Fn
    have := ps_tryH (X := F.cx q) (D := D) (i := i) (n := n) (x := x) (np := np) (hpos := hpos) (pos := pos) (body := [.Assign [.Name y p1] (.Call (.Name g p2) (e :: es) [] p3) p4]) (suite := suite) (b₀ := b₀) (tb := fun E => tAsg (tCallS (spXG F.K R) [] E ta) (gName j)) (th := th) (hN q) (hi q) (hl q) hst hfr (hex q) (hg q) (by rw [F.hm q]; exact c.g) (by rw [F.hK q]; exact c.t) (by rw [F.hK q]; exact c.i) (by rw [F.hK q]; exact c.e) (fun E XE pn hx => pss_one (ps_set (X := (F.cx q).inTry XE pn) (hN q) (hjn q) (hjl q) (pe_callS (X := (F.cx q).inTry XE pn) Fn'.ok ((F.hr q).mono hk) (hgg ⟨q, XE, pn⟩) Fn'.mgx Fn'.kp Fn'.bd .nil hx (ya ⟨q, XE, pn⟩) hdg (he ⟨q, XE, pn⟩) (hpl ⟨q, XE, pn⟩)) (hsw ⟨q, XE, pn⟩) (hjf q))) (hth q) hdb
    rw [F.hK q] at this
    exact this
  · obtain ⟨fp, r⟩ := r
    refine za σ (frzd G H fp) H _ (frzd_sub r.st.s) (r.own.pk (frzd_same r.g) fun a ha => frzd_in ha) fun vs G1 H1 s1 hx => ?_
    refine ⟨G1, ers ts, Ξ, s1.s, by rw [List.append_nil]; exact hx, hR, la _ _ _ fun a H2 s2 ha2 => ⟨a, C, rfl, rfl, sub, ?_⟩⟩
    have sH : Same H H2 := s1.h.trans s2
    have r2 : RSf F.K G0 H0 G H2 ρ (σ.set i (some (.ref a))) fp := ⟨r.st.trans ⟨Same.refl _, sH, r.st.s.trans sH, fun a h h' => absurd h h'⟩, (r.own.mono (Same.refl _) sH).setn hin, r.g, r.n, r.d⟩
    have li : i < σ.length := by rw [← r.own.len]; exact (List.getElem?_eq_some_iff.mp hin).1
    refine hs _ _ G0 H0 G _ a ⟨fp, r2⟩ (by rw [List.getElem?_set]; simp [li]) ha2 fun σ' G' H' r' => ?_
    exact kk _ G' H' (r'.setn hin')
end
end L2
namespace L2
open PySem PySem.Spec PyProof.Rows
theorem OwS.pick {K : PySem.W.Frag} {G H : Hp} : ∀ {js : List Nat} {ts : List Tr} {ρ : En} {σ : St} {fp : List Addr}, OwS K G H ρ σ fp → js.Nodup → js.map (fun j => ρ[j]?) = ts.map (fun t => some (some t)) → ∃ vs fq fr, js.map (fun j => σ[j]?) = vs.map (fun v => some (some v)) ∧ OwL K G H ts vs fq ∧ fp.Perm (fq ++ fr)
  | [], [], _, _, fp, h, _, _ => ⟨[], [], fp, rfl, ⟨rfl, rfl⟩, .refl _⟩
  | [], _ :: _, _, _, _, _, _, e => by cases e
  | _ :: _, [], _, _, _, _, _, e => by cases e
  | j :: js, t :: ts, ρ, σ, fp, h, nd, e => by
    obtain ⟨e1, e2⟩ := List.cons.inj e
    obtain ⟨v, f, fr, a1, a2, a3, a4⟩ := h.split e1
    have nd' := List.nodup_cons.mp nd
    obtain ⟨vs, fq, fr2, b1, b2, b3⟩ := OwS.pick (js := js) (ts := ts) a3 nd'.2 (by rw [← e2]; exact List.map_congr_left fun i hi => List.getElem?_set_ne (fun (z : j = i) => nd'.1 (by rw [z]; exact hi)))
    exact ⟨v :: vs, f ++ fq, fr2, by rw [List.map_cons, List.map_cons, a1, b1], ⟨v, vs, f, fq, rfl, rfl, a2, b2⟩, a4.trans (by rw [List.append_assoc]; exact List.Perm.append_left f b3)⟩
section
variable {ι : Type} {F : Fam ι} {ρ : En} {pos : Pos}
theorem rn_ret3 (ja jb jc : Nat) {xa xb xc : Str} {ta tb tc : Tr} {pa pb pc pt : Pos} {kt} (nd : [ja, jb, jc].Nodup) (ha : ρ[ja]? = some (some ta)) (hb : ρ[jb]? = some (some tb)) (hc : ρ[jc]? = some (some tc))
    (hps : ∀ i, PS (F.cx i) (.Return (some (.Tuple [.Name xa pa, .Name xb pb, .Name xc pc] kt pt)) pos) (tRet (tTup (tCons (tVar ja) (tCons (tVar jb) (tCons (tVar jc) tNil)))))) : Rn F (.Return (some (.Tuple [.Name xa pa, .Name xb pb, .Name xc pc] kt pt)) pos) ρ (.rt (.tp [ta, tb, tc])) := by
  refine ⟨_, hps, fun D σ G0 H0 G H r k => ?_⟩
  obtain ⟨fp, r⟩ := r
  obtain ⟨vs, fq, fr, q1, q2, q3⟩ := r.own.pick (js := [ja, jb, jc]) (ts := [ta, tb, tc]) nd (by rw [List.map_cons, List.map_cons, List.map_cons, ha, hb, hc]; rfl)
  have hv : vs.length = 3 := by have := congrArg List.length q1; rw [List.length_map, List.length_map] at this; exact this.symm
  obtain ⟨va, vb, vc, rfl⟩ : ∃ va vb vc, vs = [va, vb, vc] := by
    match vs, hv with
    | [va, vb, vc], _ => exact ⟨va, vb, vc, rfl⟩
  obtain ⟨z1, q1⟩ := List.cons.inj q1
  obtain ⟨z2, q1⟩ := List.cons.inj q1
  obtain ⟨z3, q1⟩ := List.cons.inj q1
  have sub : ∀ a ∈ fq, a ∈ fp := fun a ha => q3.mem_iff.mpr (List.mem_append_left _ ha)
  refine ⟨va, z1, vb, z2, vc, z3, by show 3 ≤ sizeLine; decide, fun p hp => ?_⟩
  have pf : p ∉ fq := fun z => by
    obtain ⟨u, hu⟩ := r.own.there p (sub p z)
    rw [hp] at hu; cases hu
  refine k (.ref p) G _ (p :: fq) (r.st.trans (.newO r.st.s hp)) ⟨p, _, fq, rfl, upd_same, q2.frame pf, rfl⟩ ⟨fun a ha => ?_, fun a ha => ?_, List.nodup_cons.mpr ⟨pf, (List.nodup_append.mp (q3.nodup_iff.mp r.d)).1⟩⟩
  · rcases List.mem_cons.mp ha with rfl | z
    · exact r.st.h.free hp
    · exact r.n a (sub a z)
  · rcases List.mem_cons.mp ha with rfl | z
    · exact r.st.s.free hp
    · exact r.g a (sub a z)
end
def spO (K : PySem.W.Frag) (R : List Tr → Bool → Prop) : Sp := fun vs H Q _ => ∃ (G : Hp) (ts : List Tr) (fp : List Addr) (b : Bool), Same G H ∧ OwL K G H ts vs fp ∧ (∀ a ∈ fp, G a = none) ∧ fp.Nodup ∧ R ts b ∧ ∀ H', Md fp H H' → Q (.bl b) H'
def enO (N : List Str) (ts : List Tr) : En := ts.map some ++ List.replicate (N.length - ts.length) none
theorem owl_start {K : PySem.W.Frag} {G H : Hp} {n : Nat} : ∀ {ts : List Tr} {vs : List V} {fp : List Addr}, OwL K G H ts vs fp → OwS K G H (ts.map some ++ List.replicate n none) (vs.map some ++ List.replicate n none) fp
  | [], _, _, ⟨h1, h2⟩ => by subst h1 h2; exact ows_none n
  | _ :: _, _, _, ⟨v, r, f1, f2, h1, h2, h3, h4⟩ => by subst h1 h2; exact ⟨v, _, f1, f2, rfl, rfl, h3, owl_start h4⟩
theorem fn_okO {P : Program} {w : World} {K : PySem.W.Frag} {mg : Str → Option Value} {base : Heap} {x qual : Str} {st : Stmt} {dV : Value} {f : Addr} {fd : FuncData} {N ps : List Str} {k : Nat} {R : List Tr → Bool → Prop} (Fd : FunD K x qual st dV f fd) (S : FnScope N ps (defScope st))
    (hl : ∀ ts b, R ts b → ts.length = ps.length)
    (hb : ∀ ts b, R ts b → Rns (famD P w K mg base N qual (defScope st) f k) (defBody st) (enO N ts) (.rt (L2.tb b))) : FnOk P w K mg base CX0 (k + 1) f fd ps (spO K R) := by
  refine Fd.ok S (fun vs H Q E ⟨G, ts, fp, b, s, h1, _, _, h2, h3⟩ => by rw [← h1.length]; exact hl ts b h2) fun cdv A outer s H vs Q E hr h => ?_
  obtain ⟨G, ts, fp, b, s', ol, hg, nd, hR, q⟩ := h
  obtain ⟨τ, x, y⟩ := hb ts b hR
  refine ⟨τ, x ⟨cdv, A, outer, s, H, E, hr⟩, y _ (start N vs) G (less H fp) G H ⟨fp, ⟨Same.refl _, less_sub, s', fun a h h' => absurd h h'⟩, ?_, hg, fun a ha => less_in ha, nd⟩ fun v G1 H1 fq s1 o1 w1 => ?_⟩
  · unfold start enO
    rw [← ol.length]
    exact owl_start ol
  · have e := hvi o1.2
    subst e
    exact q H1 fun c o hc ho => s1.h c o (by rw [less_out hc]; exact ho)
section
variable {ι : Type} {F : Fam ι} {ρ : En} {pos : Pos}
theorem rn_retO4 {k : Nat} {f : Addr} {fd : FuncData} {ps : List Str} {R : List Tr → Bool → Prop} {g : Str} (j1 j2 j3 j4 : Nat) {x1 x2 x3 x4 : Str} {t1 t2 t3 t4 : Tr} {b : Bool} {p0 p1 p2 p3 p4 p5 : Pos} (Fn : Kn F.P F.w F.K F.mg F.base CX0 k g f fd ps (spO F.K R)) (hk : k ≤ F.room) (nd : [j1, j2, j3, j4].Nodup) (h1 : ρ[j1]? = some (some t1)) (h2 : ρ[j2]? = some (some t2)) (h3 : ρ[j3]? = some (some t3)) (h4 : ρ[j4]? = some (some t4)) (hR : R [t1, t2, t3, t4] b)
    (hpa : ∀ i, PA (F.cx i) [.Name x1 p1, .Name x2 p2, .Name x3 p3, .Name x4 p4] (tCons (tVar j1) (tCons (tVar j2) (tCons (tVar j3) (tCons (tVar j4) tNil)))))
    (hg : ∀ i, Gl (F.cx i) g := by intro _; rfl) (hdb : (g == ("__debug__" : Str)) = false := by decide)
    (he : ∀ i, starEach [.Name x1 p1, .Name x2 p2, .Name x3 p3, .Name x4 p4] (F.cx i).env = (false, eval (.Name x1 p1) (F.cx i).env) :: starEach [.Name x2 p2, .Name x3 p3, .Name x4 p4] (F.cx i).env := by intro _; rfl) (hpl : ∀ i, (backTo p5 (starEach [.Name x2 p2, .Name x3 p3, .Name x4 p4] (F.cx i).env)).any (·.1) = false := by intro _; rfl) :
    Rn F (.Return (some (.Call (.Name g p0) [.Name x1 p1, .Name x2 p2, .Name x3 p3, .Name x4 p4] [] p5)) pos) ρ (.rt (L2.tb b)) := by
  refine ⟨tRet (tCall (spO F.K R) [] E0 (tCons (tVar j1) (tCons (tVar j2) (tCons (tVar j3) (tCons (tVar j4) tNil))))), fun i => ?_, fun D σ G0 H0 G H r kk => ?_⟩
  · have Fn' : Kn (F.cx i).prog (F.cx i).w (F.cx i).K (F.cx i).mg (F.cx i).base CX0 k g f fd ps (spO F.K R) := by
      rw [F.hP i, F.hw i, F.hK i, F.hm i, F.hb i]
      exact Fn
    exact ps_ret (pe_kn Fn' ((F.hr i).mono hk) (hg i) (hpa i) hdb (he i) (hpl i))
  · obtain ⟨fp, r⟩ := r
    obtain ⟨vs, fq, fr, q1, q2, q3⟩ := r.own.pick (js := [j1, j2, j3, j4]) (ts := [t1, t2, t3, t4]) nd (by rw [List.map_cons, List.map_cons, List.map_cons, List.map_cons, h1, h2, h3, h4]; rfl)
    have hv : vs.length = 4 := by have := congrArg List.length q1; rw [List.length_map, List.length_map] at this; exact this.symm
    obtain ⟨va, vb, vc, vd, rfl⟩ : ∃ va vb vc vd, vs = [va, vb, vc, vd] := by
      match vs, hv with
      | [va, vb, vc, vd], _ => exact ⟨va, vb, vc, vd, rfl⟩
    obtain ⟨z1, q1⟩ := List.cons.inj q1
    obtain ⟨z2, q1⟩ := List.cons.inj q1
    obtain ⟨z3, q1⟩ := List.cons.inj q1
    obtain ⟨z4, q1⟩ := List.cons.inj q1
    have sub : ∀ a ∈ fq, a ∈ fp := fun a ha => q3.mem_iff.mpr (List.mem_append_left _ ha)
    refine ⟨va, z1, vb, z2, vc, z3, vd, z4, G, [t1, t2, t3, t4], fq, b, r.st.s, q2, fun a ha => r.g a (sub a ha), (List.nodup_append.mp (q3.nodup_iff.mp r.d)).1, hR, fun H' m => ?_⟩
    exact kk (.bl b) G H' [] ⟨r.st.g, fun c o ho => m c o (fun z => by rw [r.n c (sub c z)] at ho; cases ho) (r.st.h c o ho), fun c o ho => m c o (fun z => by rw [r.g c (sub c z)] at ho; cases ho) (r.st.s c o ho), r.st.n⟩ ⟨rfl, rfl, rfl⟩ .nil
end
theorem RSf.put {K : PySem.W.Frag} {G0 H0 G H : Hp} {ρ : En} {σ : St} {fp f : List Addr} {j : Nat} {t : Tr} {v : V} (r : RSf K G0 H0 G H ρ σ fp) (hj : ρ[j]? = some none) (o : Ow K G H t v f) (hg : ∀ a ∈ f, G a = none) (hn : ∀ a ∈ f, H0 a = none) (nd : f.Nodup) (hd : ∀ a ∈ f, a ∉ fp) :
    ∃ fp', RSf K G0 H0 G H (ρ.set j (some t)) (σ.set j (some v)) fp' ∧ fp'.Perm (f ++ fp) := by
  obtain ⟨fp', q1, q2⟩ := r.own.put hj o
  refine ⟨fp', ⟨r.st, q1, fun a ha => ?_, fun a ha => ?_, q2.nodup_iff.mpr (List.nodup_append.mpr ⟨nd, r.d, fun a ha b hb e => hd a ha (e ▸ hb)⟩)⟩, q2⟩
  · rcases List.mem_append.mp (q2.mem_iff.mp ha) with z | z
    · exact hg a z
    · exact r.g a z
  · rcases List.mem_append.mp (q2.mem_iff.mp ha) with z | z
    · exact hn a z
    · exact r.n a z
section
variable {ι : Type} {F : Fam ι} {ρ : En} {pos : Pos}
theorem rn_unp3 {e tg : Expr} {ta tb tc : Tr} (j1 j2 j3 : Nat) (n12 : j1 ≠ j2) (n13 : j1 ≠ j3) (n23 : j2 ≠ j3) (he : EvS F e ρ (.tp [ta, tb, tc])) (hg : ∀ i, PG (F.cx i) tg (gTup F.K 3 (gCons (gName j1) (gCons (gName j2) (gCons (gName j3) gNil)))))
    (h1 : ρ[j1]? = some none) (h2 : ρ[j2]? = some none) (h3 : ρ[j3]? = some none)
    (hs : ∀ i, swapsWithSole [tg] e pos.line (F.cx i).env = pure false := by intro _; rfl) (hw : ∀ i, swappedStores [tg] e (F.cx i).env = pure none := by intro _; rfl)
    (ha : ∀ i, (assignEach [tg] (F.cx i).env).map (·.2) = [assign tg (F.cx i).env] := by intro _; rfl) : Rn F (.Assign [tg] e pos) ρ (.nx (((ρ.set j1 (some ta)).set j2 (some tb)).set j3 (some tc))) := by
  obtain ⟨τ, y, z⟩ := he
  refine ⟨tAsg τ _, fun i => ps_asg (y i) (hg i) (hs i) (hw i) (ha i), fun D σ G0 H0 G H r k => ?_⟩
  obtain ⟨fp, r⟩ := r
  refine z σ G H fp _ r.st.s r.own r.g fun v G1 H1 fq s1 o w => ?_
  obtain ⟨p, vs, fx, rfl, hp, ol, rfl⟩ := o
  obtain ⟨va, r1, fa, fa', rfl, rfl, oa, ol⟩ := ol
  obtain ⟨vb, r2, fb, fb', rfl, rfl, ob, ol⟩ := ol
  obtain ⟨vc, r3, fc, fc', rfl, rfl, oc, ol⟩ := ol
  obtain ⟨rfl, rfl⟩ := ol
  have rr : RSf F.K G0 H0 G1 H1 ρ σ fp := ⟨r.st.trans s1, r.own.mono s1.g s1.h, r.own.off s1 r.g, r.n, r.d⟩
  have nf : ∀ a, a ∈ fa ++ (fb ++ (fc ++ [])) → a ∉ fp := fun a ha hf => by
    obtain ⟨u, hu⟩ := r.own.there a hf
    rw [w.n a (.tail _ ha)] at hu; cases hu
  have n0 : ∀ a, a ∈ fa ++ (fb ++ (fc ++ [])) → H0 a = none := fun a ha => r.st.h.free (w.n a (.tail _ ha))
  have g0 : ∀ a, a ∈ fa ++ (fb ++ (fc ++ [])) → G1 a = none := fun a ha => w.g a (.tail _ ha)
  have nd := (List.nodup_cons.mp w.d).2
  obtain ⟨da, nd2, dab⟩ := List.nodup_append.mp nd
  obtain ⟨db, nd3, dbc⟩ := List.nodup_append.mp nd2
  obtain ⟨dc, _, _⟩ := List.nodup_append.mp nd3
  have ina : ∀ a ∈ fa, a ∈ fa ++ (fb ++ (fc ++ [])) := fun a h => List.mem_append_left _ h
  have inb : ∀ a ∈ fb, a ∈ fa ++ (fb ++ (fc ++ [])) := fun a h => List.mem_append_right _ (List.mem_append_left _ h)
  have inc : ∀ a ∈ fc, a ∈ fa ++ (fb ++ (fc ++ [])) := fun a h => List.mem_append_right _ (List.mem_append_right _ (List.mem_append_left _ h))
  obtain ⟨f1, r1, p1⟩ := rr.put h1 oa (fun a h => g0 a (ina a h)) (fun a h => n0 a (ina a h)) da (fun a h => nf a (ina a h))
  obtain ⟨f2, r2, p2⟩ := r1.put (j := j2) (by rw [List.getElem?_set_ne n12]; exact h2) ob (fun a h => g0 a (inb a h)) (fun a h => n0 a (inb a h)) db (fun a h z => by
    rcases List.mem_append.mp (p1.mem_iff.mp z) with y | y
    · exact dab a y a (List.mem_append_left _ h) rfl
    · exact nf a (inb a h) y)
  obtain ⟨f3, r3, p3⟩ := r2.put (j := j3) (by rw [List.getElem?_set_ne n23, List.getElem?_set_ne n13]; exact h3) oc (fun a h => g0 a (inc a h)) (fun a h => n0 a (inc a h)) dc (fun a h z => by
    rcases List.mem_append.mp (p2.mem_iff.mp z) with y | y
    · exact dbc a y a (List.mem_append_left _ h) rfl
    · rcases List.mem_append.mp (p1.mem_iff.mp y) with y | y
      · exact dab a y a (List.mem_append_right _ (List.mem_append_left _ h)) rfl
      · exact nf a (inc a h) y)
  exact ⟨p, [va, vb, vc], rfl, SqT.of hp, rfl, va, [vb, vc], rfl, vb, [vc], rfl, vc, [], rfl, rfl, k _ G1 H1 ⟨f3, r3⟩⟩
end
theorem RSf.swap1 {K : PySem.W.Frag} {G0 H0 G H : Hp} {ρ : En} {σ : St} {fp : List Addr} {j : Nat} {t : Tr} (r : RSf K G0 H0 G H ρ σ fp) (hj : ρ[j]? = some (some t)) :
    ∃ v f, σ[j]? = some (some v) ∧ Ow K G H t v f ∧ f.Nodup ∧ ∀ H2 t2, Md f H H2 → Ow K G H2 t2 v f → RS K G0 H0 G H2 (ρ.set j (some t2)) σ := by
  obtain ⟨v, f, fr, a1, a2, a3, a4⟩ := r.own.split hj
  have nda := List.nodup_append.mp (a4.nodup_iff.mp r.d)
  have qfp : ∀ a ∈ f, a ∈ fp := fun a ha => a4.mem_iff.mpr (List.mem_append_left _ ha)
  have ltj : j < ρ.length := (List.getElem?_eq_some_iff.mp hj).1
  refine ⟨v, f, a1, a2, nda.1, fun H2 t2 m o2 => ?_⟩
  have q3 : OwS K G H2 (ρ.set j none) σ fr := a3.agree fun a ha => by
    obtain ⟨o, ho⟩ := a3.there a ha
    rw [m a o (fun z => nda.2.2 a z a ha rfl) ho, ho]
  obtain ⟨fp1, p1, p2⟩ := q3.put (get_set_none ltj) o2
  rw [List.set_set, set_self a1] at p1
  have pm : ∀ a, a ∈ fp1 → a ∈ fp := fun a ha => a4.mem_iff.mpr (p2.mem_iff.mp ha)
  exact ⟨fp1, ⟨r.st.g, fun b u hb => m b u (fun z => by rw [r.n b (qfp b z)] at hb; cases hb) (r.st.h b u hb), fun b u hb => m b u (fun z => by rw [r.g b (qfp b z)] at hb; cases hb) (r.st.s b u hb), r.st.n⟩, p1, fun a ha => r.g a (pm a ha), fun a ha => r.n a (pm a ha), p2.nodup_iff.mpr (a4.nodup_iff.mp r.d)⟩
theorem ints_owl' {K : PySem.W.Frag} {G H : Hp} (l : List Int) : OwL K G H (l.map fun n => Tr.fz (di n)) (l.map V.int) [] := by
  have := (ints_hvl (K := K) (G := G) (ns := l)).owl (H := H)
  rw [ints_tr] at this
  exact this
theorem owl_rows' {K : PySem.W.Frag} {G H : Hp} : ∀ (ps : List (Addr × List Int)), (∀ p ∈ ps, H p.1 = some (.lst (p.2.map V.int))) → OwL K G H ((ps.map fun p => p.2).map tInts) (ps.map fun p => V.ref p.1) (ps.map fun p => p.1)
  | [], _ => ⟨rfl, rfl⟩
  | p :: ps, h => ⟨.ref p.1, _, [p.1], _, rfl, rfl, ⟨p.1, _, [], rfl, h p (.head _), ints_owl' _, rfl⟩, owl_rows' ps fun q hq => h q (.tail _ hq)⟩
theorem tab_ow {K : PySem.W.Frag} {G H : Hp} {cs : List Int} {os : List (List Int)} {v : V} {f : List Addr} (h : Ow K G H (.tp [tInts cs, tRows os]) v f) : ∃ (p a b : Addr) (ps : List (Addr × List Int)), v = .ref p ∧ f = p :: a :: b :: ps.map (·.1) ∧ H p = some (.tup [.ref a, .ref b]) ∧ H a = some (.lst (cs.map V.int)) ∧ H b = some (.lst (ps.map fun p => V.ref p.1)) ∧ ps.map (·.2) = os ∧ ∀ p ∈ ps, H p.1 = some (.lst (p.2.map V.int)) := by
  obtain ⟨p, vs, fx, rfl, hp, ol, rfl⟩ := h
  obtain ⟨va, r1, fa, fa', rfl, rfl, oa, ol⟩ := ol
  obtain ⟨vb, r2, fb, fb', rfl, rfl, ob, ol⟩ := ol
  obtain ⟨rfl, rfl⟩ := ol
  obtain ⟨a, xs, fx, rfl, ha, oa, rfl⟩ := oa
  obtain ⟨rfl, rfl⟩ := ints_ow oa
  obtain ⟨b, ys, fy, rfl, hb, ob, rfl⟩ := ob
  obtain ⟨ps, rfl, rfl, e, hps⟩ := rows_ow ob
  exact ⟨p, a, b, ps, rfl, by rw [List.append_nil]; rfl, hp, ha, hb, e, hps⟩
theorem ow_tab {K : PySem.W.Frag} {G H : Hp} {cs : List Int} {p a b : Addr} {ps : List (Addr × List Int)} (hp : H p = some (.tup [.ref a, .ref b])) (ha : H a = some (.lst (cs.map V.int))) (hb : H b = some (.lst (ps.map fun p => V.ref p.1))) (hps : ∀ p ∈ ps, H p.1 = some (.lst (p.2.map V.int))) : Ow K G H (.tp [tInts cs, tRows (ps.map (·.2))]) (.ref p) (p :: a :: b :: ps.map (·.1)) :=
  ⟨p, _, a :: b :: ps.map (·.1), rfl, hp, ⟨.ref a, _, [a], b :: ps.map (·.1), rfl, rfl, ⟨a, _, [], rfl, ha, ints_owl' cs, rfl⟩, .ref b, [], b :: ps.map (·.1), [], rfl, by rw [List.append_nil], ⟨b, _, _, rfl, hb, owl_rows' ps hps, rfl⟩, rfl, rfl⟩, rfl⟩
section
variable {ι : Type} {F : Fam ι} {ρ : En} {pos : Pos} {st : Stmt}
theorem rn_tapp (j : Nat) {cs : List Int} {os : List (List Int)} {c : Int} (h : ρ[j]? = some (some (.tp [tInts cs, tRows os]))) (hz : cs.length < sizeLine)
    (hps : ∀ i, PS (F.cx i) st (tDrop (tBM F.K "list" rAppend (tOp (rIxT F.K) (tVar j) (tC (.int 0))) (tCons (tC (.int c)) tNil)))) : Rn F st ρ (.nx (ρ.set j (some (.tp [tInts (cs ++ [c]), tRows os])))) := by
  refine ⟨_, hps, fun D σ G0 H0 G H r k => ?_⟩
  obtain ⟨fp, r⟩ := r
  obtain ⟨v, f, s1, o1, nd, sw⟩ := r.swap1 h
  obtain ⟨p, a, b, ps, rfl, rfl, hp, ha, hb, rfl, hps⟩ := tab_ow o1
  have n1 := List.nodup_cons.mp nd
  have n2 := List.nodup_cons.mp n1.2
  have pa : p ≠ a := fun z => n1.1 (z ▸ .head _)
  have ab : b ≠ a := fun z => n2.1 (z ▸ .head _)
  have ap : ∀ q ∈ ps, q.1 ≠ a := fun q hq z => n2.1 (.tail _ (z ▸ List.mem_map_of_mem (f := (·.1)) hq))
  refine ⟨_, s1, p, _, 0, .ref a, rfl, rfl, SqT.of hp, rfl, .inl ⟨rfl, _, SqL.of ha⟩, a, _, _, rfl, rfl, ha, by rw [List.length_map]; exact hz, ?_⟩
  refine k σ G _ (sw _ _ (.upd (.tail _ (.head _))) (ow_tab (by rw [upd_ne pa]; exact hp) (by rw [upd_same, List.map_append]; rfl) (by rw [upd_ne ab]; exact hb) fun q hq => by rw [upd_ne (ap q hq)]; exact hps q hq))
theorem rn_trows (j jy : Nat) {cs : List Int} {os : List (List Int)} {c : Int} (h : ρ[j]? = some (some (.tp [tInts cs, tRows os]))) (hy : ρ[jy]? = some none) (hz : ∀ o ∈ os, o.length < sizeLine)
    (hps : ∀ i, PS (F.cx i) st (tFor (iList F.K (tOp (rIxT F.K) (tVar j) (tC (.int 1)))) (gName jy) (tDrop (tBM F.K "list" rAppend (tVar jy) (tCons (tC (.int c)) tNil))))) : Rn F st ρ (.nx (ρ.set j (some (.tp [tInts cs, tRows (os.map (· ++ [c]))])))) := by
  refine ⟨_, hps, fun D σ G0 H0 G H r k => ?_⟩
  obtain ⟨fp, r⟩ := r
  have ly : jy < σ.length := by rw [← r.own.len]; exact (List.getElem?_eq_some_iff.mp hy).1
  have jj : j ≠ jy := fun z => by rw [z, hy] at h; cases h
  obtain ⟨v, f, s1, o1, nd, sw⟩ := r.swap1 h
  obtain ⟨p, a, b, ps, rfl, rfl, hp, ha, hb, rfl, hps⟩ := tab_ow o1
  have n1 := List.nodup_cons.mp nd
  have n2 := List.nodup_cons.mp n1.2
  have n3 := List.nodup_cons.mp n2.2
  have hcs : ∀ q ∈ ps, q.1 ∈ ps.map (·.1) := fun q hq => List.mem_map_of_mem (f := (·.1)) hq
  refine ⟨_, s1, p, _, 1, .ref b, rfl, rfl, SqT.of hp, rfl, b, rfl, ⟨_, SqL.of hb⟩, ?_⟩
  refine for_list (K := F.K) (a := b) (xs := ps.map fun p => V.ref p.1) (fun i σ' Hc => (∃ u, σ' = σ.set jy u) ∧ Md (ps.map (·.1)) H Hc ∧ ∀ m q, ps[m]? = some q → Hc q.1 = some (.lst ((if m < i then q.2 ++ [c] else q.2).map V.int)))
    ⟨⟨σ[jy], (set_self (List.getElem?_eq_getElem ly)).symm⟩, .refl, fun m q hq => hps q (List.mem_of_getElem? hq)⟩ (fun i σ' Hc _ z => SqL.of (z.2.1 b _ n3.1 hb)) ?_ ?_
  · rintro i x σ' Hc hi ⟨⟨u, rfl⟩, md, hj⟩
    rw [List.getElem?_map] at hi
    obtain ⟨q, hq, rfl⟩ := Option.map_eq_some_iff.mp hi
    have hqm := List.mem_of_getElem? hq
    have hc := hj i q hq
    rw [if_neg (Nat.lt_irrefl _)] at hc
    have gy : ((σ.set jy u).set jy (some (V.ref q.1)))[jy]? = some (some (V.ref q.1)) := by rw [List.getElem?_set_self]; rw [List.length_set]; exact ly
    refine ⟨_, gy, .inl ⟨rfl, _, SqL.of hc⟩, q.1, _, _, rfl, rfl, hc, by rw [List.length_map]; exact hz q.2 (List.mem_map_of_mem (f := (·.2)) hqm), ⟨_, by rw [List.set_set]⟩, md.trans (.upd (hcs q hqm)), fun m q' hq' => ?_⟩
    by_cases e : m = i
    · subst e
      rw [hq] at hq'
      cases hq'
      rw [upd_same, if_pos (Nat.lt_succ_self _), List.map_append]; rfl
    · have ne : q'.1 ≠ q.1 := fun z => by
        have g1 : (ps.map (·.1))[m]? = some q'.1 := by rw [List.getElem?_map, hq']; rfl
        have g2 : (ps.map (·.1))[i]? = some q'.1 := by rw [List.getElem?_map, hq, z]; rfl
        obtain ⟨z1, z2⟩ := List.getElem?_eq_some_iff.mp g1
        obtain ⟨z3, z4⟩ := List.getElem?_eq_some_iff.mp g2
        exact e ((List.getElem_inj n3.2).mp (z2.trans z4.symm))
      rw [upd_ne ne, hj m q' hq']
      by_cases lt : m < i
      · rw [if_pos lt, if_pos (by omega)]
      · rw [if_neg lt, if_neg (by omega)]
  · rintro σ' Hc ⟨⟨u, rfl⟩, md, hj⟩
    rw [List.length_map] at hj
    have all : ∀ q ∈ ps, Hc q.1 = some (.lst ((q.2 ++ [c]).map V.int)) := fun q hq => by
      obtain ⟨m, hm⟩ := List.getElem?_of_mem hq
      have := hj m q hm
      rw [if_pos (List.getElem?_eq_some_iff.mp hm).1] at this
      exact this
    have md' : Md (p :: a :: b :: ps.map (·.1)) H Hc := md.sub fun x hx => .tail _ (.tail _ (.tail _ hx))
    have pn : p ∉ ps.map (·.1) := fun z => n1.1 (.tail _ (.tail _ z))
    have an : a ∉ ps.map (·.1) := fun z => n2.1 (.tail _ z)
    have ot := ow_tab (K := F.K) (G := G) (H := Hc) (cs := cs) (p := p) (a := a) (b := b) (ps := ps.map fun q => (q.1, q.2 ++ [c])) (md p _ pn hp) (md a _ an ha) (by rw [List.map_map]; exact md b _ n3.1 hb) (fun q hq => by
      obtain ⟨q', hq', rfl⟩ := List.mem_map.mp hq
      exact all q' hq')
    rw [List.map_map, List.map_map] at ot
    have e1 : ps.map ((fun x : Addr × List Int => x.2) ∘ fun q => (q.1, q.2 ++ [c])) = (ps.map (·.2)).map (· ++ [c]) := by rw [List.map_map]; rfl
    have e2 : ps.map ((fun x : Addr × List Int => x.1) ∘ fun q => (q.1, q.2 ++ [c])) = ps.map (·.1) := rfl
    rw [e1, e2] at ot
    exact k _ G _ ((sw _ _ md' ot).setn (by rw [List.getElem?_set_ne jj]; exact hy))
end
end L2
namespace K46
open PySem L2
def top (i : Nat) : Stmt := PySem.Challenge.pw_lotmeal_k46_told_otherwise.main.body.getD i (.Pass ⟨0, 0, 0, 0⟩)
structure Txt (mg : Str → Option Value) : Prop where
  b_isinstance : mg "isinstance" = none
  b_int : mg "int" = none
  b_bool : mg "bool" = none
  b_list : mg "list" = none
  b_tuple : mg "tuple" = none
  b_len : mg "len" = none
  b_range : mg "range" = none
  b_zip : mg "zip" = none
  b_any : mg "any" = none
  b_enumerate : mg "enumerate" = none
  b_set : mg "set" = none
  g_MOST : ∃ tk, mg "MOST" = some (.int 6 tk)
  g_MOST_COUNT : ∃ tk, mg "MOST_COUNT" = some (.int 9 tk)
section
variable {P : Program} {w : World} {K : PySem.W.Frag} {mg : Str → Option Value} {base : Heap}
structure Cs08 where
  LotError : Addr
  TooGreat : Addr
  NoAsker : Addr
  NoNumber : Addr
  NoThing : Addr
  Twice : Addr
  NoText : Addr
  NoShares : Addr
  NoTurns : Addr
  NoTicket : Addr
  NoName : Addr
  Double : Addr
  NoRow : Addr
  NoTable : Addr
structure Exc08 (K : PySem.W.Frag) (mg : Str → Option Value) (c : Cs08) (N : Addr) (ans : List Bool) : Prop where
  s : PySem.W.subIn K (.ref N) (.ref c.LotError) = some true
  a : Asks K N
  v : PySem.W.kitOne K (.ref N) (.type "ValueError") = some true
  q0 : PySem.W.kitOne K (.ref N) (.ref c.TooGreat) = some (ans.getD 0 false)
  q1 : PySem.W.kitOne K (.ref N) (.ref c.NoAsker) = some (ans.getD 1 false)
  q2 : PySem.W.kitOne K (.ref N) (.ref c.NoNumber) = some (ans.getD 2 false)
  q3 : PySem.W.kitOne K (.ref N) (.ref c.NoThing) = some (ans.getD 3 false)
  q4 : PySem.W.kitOne K (.ref N) (.ref c.Twice) = some (ans.getD 4 false)
  o_NoText : PySem.W.kitOne K (.ref N) (.ref c.NoText) = some false
  o_NoShares : PySem.W.kitOne K (.ref N) (.ref c.NoShares) = some false
  o_NoTurns : PySem.W.kitOne K (.ref N) (.ref c.NoTurns) = some false
  o_NoTicket : PySem.W.kitOne K (.ref N) (.ref c.NoTicket) = some false
  o_NoName : PySem.W.kitOne K (.ref N) (.ref c.NoName) = some false
  o_Double : PySem.W.kitOne K (.ref N) (.ref c.Double) = some false
  o_NoRow : PySem.W.kitOne K (.ref N) (.ref c.NoRow) = some false
  o_NoTable : PySem.W.kitOne K (.ref N) (.ref c.NoTable) = some false
structure Txt08 (K : PySem.W.Frag) (mg : Str → Option Value) (c : Cs08) (ft fw : Addr) : Prop where
  b_ValueError : mg "ValueError" = none
  cat : Cat K mg "LotError" c.LotError
  g_TooGreat : mg "TooGreat" = some (.ref c.TooGreat)
  g_NoAsker : mg "NoAsker" = some (.ref c.NoAsker)
  g_NoNumber : mg "NoNumber" = some (.ref c.NoNumber)
  g_NoThing : mg "NoThing" = some (.ref c.NoThing)
  g_Twice : mg "Twice" = some (.ref c.Twice)
  g_NoText : mg "NoText" = some (.ref c.NoText)
  g_NoShares : mg "NoShares" = some (.ref c.NoShares)
  g_NoTurns : mg "NoTurns" = some (.ref c.NoTurns)
  g_NoTicket : mg "NoTicket" = some (.ref c.NoTicket)
  g_NoName : mg "NoName" = some (.ref c.NoName)
  g_Double : mg "Double" = some (.ref c.Double)
  g_NoRow : mg "NoRow" = some (.ref c.NoRow)
  g_NoTable : mg "NoTable" = some (.ref c.NoTable)
  x_TooGreat : PySem.W.excIn K c.TooGreat mroV "ValueError.__new__" = true
  x_NoAsker : PySem.W.excIn K c.NoAsker mroV "ValueError.__new__" = true
  x_NoNumber : PySem.W.excIn K c.NoNumber mroV "ValueError.__new__" = true
  xt : XI K c.NoThing c.LotError ft
  xw : XI K c.Twice c.LotError fw
  nt : NoAttr K c.NoThing "asker"
  nw : NoAttr K c.Twice "asker"
  ht : PySem.W.hasDictIn K c.NoThing = true
  hw : PySem.W.hasDictIn K c.Twice = true
  e_TooGreat : Exc08 K mg c c.TooGreat [true, false, false, false, false]
  e_NoAsker : Exc08 K mg c c.NoAsker [false, true, false, false, false]
  e_NoNumber : Exc08 K mg c c.NoNumber [false, false, true, false, false]
  e_NoThing : Exc08 K mg c c.NoThing [false, false, false, true, false]
  e_Twice : Exc08 K mg c c.Twice [false, false, false, false, true]
def clsB : Stmt → List Stmt
  | .ClassDef _ _ _ b _ _ _ _ _ _ _ => b
  | _ => []
abbrev s_initT : Stmt := (clsB (top 6)).getD 0 (.Pass ⟨0, 0, 0, 0⟩)
theorem sc_initT : FnScope ["self", "asker"] ["self", "asker"] (defScope s_initT) := ⟨rfl, rfl, rfl, by decide +kernel, rfl, by decide +kernel, by decide +kernel⟩
theorem ok_initT {ft fw : Addr} {fd : FuncData} {c : Cs08} (F : FunD K "__init__" "NoThing.__init__" s_initT .none ft fd) (U : Txt08 K mg c ft fw) : FnOk P w K mg base CX0 1 ft fd ["self", "asker"] (spI c.NoThing "asker") := by
  refine F.ok sc_initT (fun vs H Q E ⟨_, _, h, _⟩ => by rw [h]; rfl) fun cdv A outer s H vs Q E hr h => ?_
  obtain ⟨e, v, rfl, he, q⟩ := h
  refine ⟨_, pss_cons (ps_expr (pe_base (by rfl) U.cat.g U.xt (pa_cons (pv 0) (pa_cons pe_str pa_nil)))) (pss_one (ps_fldX rfl U.xt U.nt (pv 0) (pv 1))), ?_⟩
  refine ⟨_, rfl, e, _, rfl, he, ?_⟩
  exact ⟨_, rfl, _, rfl, e, rfl, he, fun dx h1 h2 => q dx h1 h2⟩
abbrev s_initW : Stmt := (clsB (top 7)).getD 0 (.Pass ⟨0, 0, 0, 0⟩)
theorem sc_initW : FnScope ["self", "asker"] ["self", "asker"] (defScope s_initW) := ⟨rfl, rfl, rfl, by decide +kernel, rfl, by decide +kernel, by decide +kernel⟩
theorem ok_initW {ft fw : Addr} {fd : FuncData} {c : Cs08} (F : FunD K "__init__" "Twice.__init__" s_initW .none fw fd) (U : Txt08 K mg c ft fw) : FnOk P w K mg base CX0 1 fw fd ["self", "asker"] (spI c.Twice "asker") := by
  refine F.ok sc_initW (fun vs H Q E ⟨_, _, h, _⟩ => by rw [h]; rfl) fun cdv A outer s H vs Q E hr h => ?_
  obtain ⟨e, v, rfl, he, q⟩ := h
  refine ⟨_, pss_cons (ps_expr (pe_base (by rfl) U.cat.g U.xw (pa_cons (pv 0) (pa_cons pe_str pa_nil)))) (pss_one (ps_fldX rfl U.xw U.nw (pv 0) (pv 1))), ?_⟩
  refine ⟨_, rfl, e, _, rfl, he, ?_⟩
  exact ⟨_, rfl, _, rfl, e, rfl, he, fun dx h1 h2 => q dx h1 h2⟩
inductive Why where
  | great | asker | number | thing (j : Nat) | twice (j : Nat) | made
def badN (n : Int) (o : List Int) : Bool := (o.map fun x => decide (x < 0) || decide (n ≤ x)).any id
def dupN (o : List Int) : Bool := !decide (((unlike o : Nat) : Int) = (o.length : Nat))
def whyF (cs : List Int) (os : List (List Int)) : Why :=
  if 6 < cs.length ∨ 6 < os.length then .great else if os.length = 0 then .asker else if (cs.map fun x => decide (x < 0) || decide (9 < x)).any id = true then .number else
    match os.findIdx? (badN cs.length) with
    | some j => .thing j
    | none => match os.findIdx? dupN with
      | some j => .twice j
      | none => .made
abbrev Wish := Hp → Hp → XK → Prop
def xiOf (c : Cs08) : Why → Option Wish
  | .great => some fun G H E => KxP G H c.TooGreat E
  | .asker => some fun G H E => KxP G H c.NoAsker E
  | .number => some fun G H E => KxP G H c.NoNumber E
  | .thing j => some fun G H E => KxD G H c.NoThing "asker" (.int j) E
  | .twice j => some fun G H E => KxD G H c.Twice "asker" (.int j) E
  | .made => none
structure Sz08 (cs : List Int) (os : List (List Int)) : Prop where
  c : cs.length ≤ 100
  o : os.length ≤ 100
  r : ∀ o ∈ os, o.length ≤ 100
theorem find_some {p : List Int → Bool} {os : List (List Int)} {j : Nat} (h : os.findIdx? p = some j) : ∃ o, os[j]? = some o ∧ p o = true ∧ ∀ k o', k < j → os[k]? = some o' → p o' = false := by
  obtain ⟨hl, h1, h2⟩ := List.findIdx?_eq_some_iff_getElem.mp h
  refine ⟨os[j], List.getElem?_eq_getElem hl, h1, fun k o' hk ho => ?_⟩
  obtain ⟨hk2, rfl⟩ := List.getElem?_eq_some_iff.mp ho
  have := h2 k hk
  simpa using this
theorem find_none {p : List Int → Bool} {os : List (List Int)} (h : os.findIdx? p = none) : ∀ o ∈ os, p o = false := fun o ho => by
  have := List.findIdx?_eq_none_iff.mp h o ho
  simpa using this
abbrev s_check_orders : Stmt := top 18
theorem sc_check_orders : FnScope ["orders", "many", "asker", "order"] ["orders", "many"] (defScope s_check_orders) := ⟨rfl, rfl, rfl, by decide +kernel, rfl, by decide +kernel, by decide +kernel⟩
theorem er_mapB {α : Type} (l : List α) (f : α → Bool) : er (.ow (l.map fun k => Tr.fz (db (f k)))) = .lst ((l.map f).map db) := by
  rw [er_ow_map, List.map_map]; rfl
def rCheck (dd : List Dv) (t : Tr) : Prop := ∃ (os : List (List Int)) (n : Int), (∀ o ∈ os, o.length ≤ 100) ∧ (∀ o ∈ os, badN n o = false) ∧ (∀ o ∈ os, dupN o = false) ∧ dd = [.lst (os.map dis), di n] ∧ t = tn
theorem ok_check_orders {f : Addr} {fd : FuncData} {k : Nat} (F : Fun K "check_orders" "check_orders" s_check_orders f fd) (T : Txt mg) : FnOk P w K mg base CX0 (k + 1) f fd ["orders", "many"] (spT K rCheck) := by
  refine fn_ok F.d sc_check_orders (fun dd t h => by obtain ⟨_, _, _, _, _, rfl, _⟩ := h; rfl) fun dd t h => ?_
  obtain ⟨os, n, ho, hb, hd2, rfl, rfl⟩ := h
  refine ⟨_, .inr ⟨rfl, [some (.fz (.lst (os.map dis))), some (ti n), none, none], rfl⟩, ?_⟩
  have big : 1000 < sizeLine := by decide
  refine rns_cons (ρ1 := [some (.fz (.lst (os.map dis))), some (ti n), none, none]) (rn_for (EvI.s (evi_enum T.b_enumerate (ev_nm 0 rfl) rfl)) (evg_t2 2 3 (fun _ => sc_check_orders.nd)) (fun _ => [some (.fz (.lst (os.map dis))), some (ti n), none, none]) rfl (fun _ => rfl) (fun j d hd => ?_)) ?_
  · obtain ⟨x, hx, rfl⟩ := enu_get hd
    obtain ⟨o, ho', rfl⟩ := map_get hx
    have om := List.mem_of_getElem? ho'
    have o2 := ho o om
    refine ⟨_, _, rfl, rns_one (rn_skip (Et.s (et_val (ev_any (bs := o.map fun x => decide (x < 0) || decide (n ≤ x)) T.b_any (ev_lcm (own := ["thing"]) (fr := [1]) o di (fun x => tb (decide (x < 0) || decide (n ≤ x))) (fun i => lcs ⟨rfl, rfl, by decide +kernel, by decide +kernel, by decide +kernel, by decide +kernel⟩) (evi_list (ev_nm 3 rfl) rfl) (evg_nm 0 (fun _ => by show List.Nodup (["thing", "many"] : List Str); decide)) (by decide) (by omega) (fun x hx => ⟨_, rfl, ev_or (ev_lt (ev_nm 0 rfl) ev_int) fun _ => ev_one (ev_ge (ev_nm 0 rfl) (ev_nm 1 rfl))⟩) (fun dd => by cases dd <;> rfl)) (er_mapB o _)))) ?_), [2, 3], rfl⟩
    exact hb o om
  refine rns_cons (ρ1 := [some (.fz (.lst (os.map dis))), some (ti n), none, none]) (rn_for (EvI.s (evi_enum T.b_enumerate (ev_nm 0 rfl) rfl)) (evg_t2 2 3 (fun _ => sc_check_orders.nd)) (fun _ => [some (.fz (.lst (os.map dis))), some (ti n), none, none]) rfl (fun _ => rfl) (fun j d hd => ?_)) rns_nil
  · obtain ⟨x, hx, rfl⟩ := enu_get hd
    obtain ⟨o, ho', rfl⟩ := map_get hx
    have om := List.mem_of_getElem? ho'
    have o2 := ho o om
    refine ⟨_, _, rfl, rns_one (rn_skip (Et.s (et_ne (ev_lenset T.b_len T.b_set (ev_nm 3 rfl) rfl (by omega)) (ev_len T.b_len (ev_nm 3 rfl) (.inl rfl)))) ?_), [2, 3], rfl⟩
    have hz := hd2 o om
    unfold dupN at hz
    rw [List.length_map]
    exact hz
theorem enu_at {xs : List Dv} {j : Nat} {x : Dv} (h : xs[j]? = some x) : (enuD xs)[j]? = some (.tup [di (j : Nat), x]) := by
  unfold enuD
  rw [List.getElem?_zipWith, List.getElem?_range (List.getElem?_eq_some_iff.mp h).1, h]
def rChkX (c : Cs08) (dd : List Dv) (Ξ : Wish) : Prop := ∃ (os : List (List Int)) (n : Int) (j : Nat) (o : List Int), (∀ o ∈ os, o.length ≤ 100) ∧ dd = [.lst (os.map dis), di n] ∧ os[j]? = some o ∧
  ((badN n o = true ∧ (∀ k o', k < j → os[k]? = some o' → badN n o' = false) ∧ Ξ = fun G H E => KxD G H c.NoThing "asker" (.int j) E) ∨ ((∀ o ∈ os, badN n o = false) ∧ dupN o = true ∧ (∀ k o', k < j → os[k]? = some o' → dupN o' = false) ∧ Ξ = fun G H E => KxD G H c.Twice "asker" (.int j) E))
theorem ok_check_ordersX {f ft fw : Addr} {fd fdt fdw : FuncData} {k : Nat} {c : Cs08} (F : Fun K "check_orders" "check_orders" s_check_orders f fd) (T : Txt mg) (U : Txt08 K mg c ft fw) (Ft : FnOk P w K mg base CX0 1 ft fdt ["self", "asker"] (spI c.NoThing "asker")) (bt : Binds K fdt ["self", "asker"] []) (Fw : FnOk P w K mg base CX0 1 fw fdw ["self", "asker"] (spI c.Twice "asker")) (bw : Binds K fdw ["self", "asker"] []) : FnOk P w K mg base (CXD P w) (k + 3) f fd ["orders", "many"] (spXG K (rChkX c)) := by
  refine fn_okXG F.d sc_check_orders (fun dd Ξ h => by obtain ⟨_, _, _, _, _, rfl, _⟩ := h; rfl) fun dd Ξ h => ?_
  obtain ⟨os, n, j, o, ho, rfl, hj, h⟩ := h
  have big : 1000 < sizeLine := by decide
  have om0 := List.mem_of_getElem? hj
  have o20 := ho o om0
  have jd : (enuD (os.map dis))[j]? = some (.tup [di (j : Nat), dis o]) := by
    exact enu_at (by rw [List.getElem?_map, hj]; rfl)
  rcases h with ⟨h1, h2, rfl⟩ | ⟨h0, h1, h2, rfl⟩
  · refine rzg_for (EvI.s (evi_enum T.b_enumerate (ev_nm 0 rfl) rfl)) (evg_t2 2 3 (fun _ => sc_check_orders.nd)) (fun _ => [some (.fz (.lst (os.map dis))), some (ti n), none, none]) j rfl (fun _ => rfl) (fun i d hi hd => ?_) ⟨_, _, jd, rfl, rzg_if (EtS.to (q := true) (Et.s (et_val (ev_any (bs := o.map fun x => decide (x < 0) || decide (n ≤ x)) T.b_any (ev_lcm (own := ["thing"]) (fr := [1]) o di (fun x => tb (decide (x < 0) || decide (n ≤ x))) (fun i => lcs ⟨rfl, rfl, by decide +kernel, by decide +kernel, by decide +kernel, by decide +kernel⟩) (evi_list (ev_nm 3 rfl) rfl) (evg_nm 0 (fun _ => by show List.Nodup (["thing", "many"] : List Str); decide)) (by decide) (by omega) (fun x hx => ⟨_, rfl, ev_or (ev_lt (ev_nm 0 rfl) ev_int) fun _ => ev_one (ev_ge (ev_nm 0 rfl) (ev_nm 1 rfl))⟩) (fun dd => by cases dd <;> rfl)) (er_mapB o _)))) h1) (RzD.g (rzD_raise U.g_NoThing U.xt Ft (by omega) bt (ev_nm 2 rfl)))⟩ later_D
    obtain ⟨x, hx, rfl⟩ := enu_get hd
    obtain ⟨o', ho', rfl⟩ := map_get hx
    have o2 := ho o' (List.mem_of_getElem? ho')
    refine ⟨_, _, rfl, rns_one (rn_skip (Et.s (et_val (ev_any (bs := o'.map fun x => decide (x < 0) || decide (n ≤ x)) T.b_any (ev_lcm (own := ["thing"]) (fr := [1]) o' di (fun x => tb (decide (x < 0) || decide (n ≤ x))) (fun i => lcs ⟨rfl, rfl, by decide +kernel, by decide +kernel, by decide +kernel, by decide +kernel⟩) (evi_list (ev_nm 3 rfl) rfl) (evg_nm 0 (fun _ => by show List.Nodup (["thing", "many"] : List Str); decide)) (by decide) (by omega) (fun x hx => ⟨_, rfl, ev_or (ev_lt (ev_nm 0 rfl) ev_int) fun _ => ev_one (ev_ge (ev_nm 0 rfl) (ev_nm 1 rfl))⟩) (fun dd => by cases dd <;> rfl)) (er_mapB o' _)))) ?_), [2, 3], rfl⟩
    exact h2 i o' hi ho'
  · refine rzg_cons (ρ1 := [some (.fz (.lst (os.map dis))), some (ti n), none, none]) (rn_for (EvI.s (evi_enum T.b_enumerate (ev_nm 0 rfl) rfl)) (evg_t2 2 3 (fun _ => sc_check_orders.nd)) (fun _ => [some (.fz (.lst (os.map dis))), some (ti n), none, none]) rfl (fun _ => rfl) (fun i d hd => ?_)) ?_
    · obtain ⟨x, hx, rfl⟩ := enu_get hd
      obtain ⟨o', ho', rfl⟩ := map_get hx
      have om := List.mem_of_getElem? ho'
      have o2 := ho o' om
      refine ⟨_, _, rfl, rns_one (rn_skip (Et.s (et_val (ev_any (bs := o'.map fun x => decide (x < 0) || decide (n ≤ x)) T.b_any (ev_lcm (own := ["thing"]) (fr := [1]) o' di (fun x => tb (decide (x < 0) || decide (n ≤ x))) (fun i => lcs ⟨rfl, rfl, by decide +kernel, by decide +kernel, by decide +kernel, by decide +kernel⟩) (evi_list (ev_nm 3 rfl) rfl) (evg_nm 0 (fun _ => by show List.Nodup (["thing", "many"] : List Str); decide)) (by decide) (by omega) (fun x hx => ⟨_, rfl, ev_or (ev_lt (ev_nm 0 rfl) ev_int) fun _ => ev_one (ev_ge (ev_nm 0 rfl) (ev_nm 1 rfl))⟩) (fun dd => by cases dd <;> rfl)) (er_mapB o' _)))) ?_), [2, 3], rfl⟩
      exact h0 o' om
    · refine rzg_for (EvI.s (evi_enum T.b_enumerate (ev_nm 0 rfl) rfl)) (evg_t2 2 3 (fun _ => sc_check_orders.nd)) (fun _ => [some (.fz (.lst (os.map dis))), some (ti n), none, none]) j rfl (fun _ => rfl) (fun i d hi hd => ?_) ⟨_, _, jd, rfl, rzg_if (EtS.to (q := true) (Et.s (et_ne (ev_lenset T.b_len T.b_set (ev_nm 3 rfl) rfl (by omega)) (ev_len T.b_len (ev_nm 3 rfl) (.inl rfl)))) ?_) (RzD.g (rzD_raise U.g_Twice U.xw Fw (by omega) bw (ev_nm 2 rfl)))⟩ later_D
      · obtain ⟨x, hx, rfl⟩ := enu_get hd
        obtain ⟨o', ho', rfl⟩ := map_get hx
        have o2 := ho o' (List.mem_of_getElem? ho')
        refine ⟨_, _, rfl, rns_one (rn_skip (Et.s (et_ne (ev_lenset T.b_len T.b_set (ev_nm 3 rfl) rfl (by omega)) (ev_len T.b_len (ev_nm 3 rfl) (.inl rfl)))) ?_), [2, 3], rfl⟩
        have hz := h2 i o' hi ho'
        unfold dupN at hz
        rw [List.length_map]
        exact hz
      · unfold dupN at h1
        rw [List.length_map]
        exact h1
end
end K46
namespace K46
open PySem L2
section
variable {P : Program} {w : World} {K : PySem.W.Frag} {mg : Str → Option Value} {base : Heap}
abbrev s_table_of : Stmt := top 19
theorem sc_table_of : FnScope ["counts", "orders"] ["counts", "orders"] (defScope s_table_of) := ⟨rfl, rfl, rfl, by decide +kernel, rfl, by decide +kernel, by decide +kernel⟩
theorem gt_off {c : List Int} {os : List (List Int)} (h : ¬ (6 < c.length ∨ 6 < os.length)) : (decide ((6 : Int) < ((c.map di).length : Nat)) || decide ((6 : Int) < ((os.map dis).length : Nat))) = false := by
  rw [List.length_map, List.length_map, decide_eq_false (by omega), decide_eq_false (by omega)]; rfl
theorem gt_on {c : List Int} {os : List (List Int)} (h : 6 < c.length ∨ 6 < os.length) : (decide ((6 : Int) < ((c.map di).length : Nat)) || decide ((6 : Int) < ((os.map dis).length : Nat))) = true := by
  rw [List.length_map, List.length_map]
  rcases h with h | h
  · rw [decide_eq_true (show (6 : Int) < (c.length : Nat) by omega)]; rfl
  · rw [decide_eq_true (show (6 : Int) < (os.length : Nat) by omega), Bool.or_true]
def rTab (dd : List Dv) (t : Tr) : Prop := ∃ (c : List Int) (os : List (List Int)), Sz08 c os ∧ whyF c os = .made ∧ dd = [dis c, .lst (os.map dis)] ∧ t = .tp [tInts c, tRows os]
theorem ok_table_of {f f1 : Addr} {fd fd1 : FuncData} {k : Nat} (F : Fun K "table_of" "table_of" s_table_of f fd) (T : Txt mg) (K_check_orders : Kn P w K mg base CX0 (k + 1) "check_orders" f1 fd1 ["orders", "many"] (spT K rCheck)) : FnOk P w K mg base CX0 (k + 2) f fd ["counts", "orders"] (spT K rTab) := by
  refine fn_ok F.d sc_table_of (fun dd t h => by obtain ⟨_, _, _, _, rfl, _⟩ := h; rfl) fun dd t h => ?_
  obtain ⟨c, os, sz, hw, rfl, rfl⟩ := h
  refine ⟨_, .inl rfl, ?_⟩
  have big : 1000 < sizeLine := by decide
  have c6 := sz.c
  have o6 := sz.o
  obtain ⟨tk, gm⟩ := T.g_MOST
  obtain ⟨tk2, gm2⟩ := T.g_MOST_COUNT
  unfold whyF at hw
  split at hw
  · cases hw
  rename_i w1
  split at hw
  · cases hw
  rename_i w2
  split at hw
  · cases hw
  rename_i w3
  split at hw
  · cases hw
  rename_i w4
  split at hw
  · cases hw
  rename_i w5
  refine rns_cons (rn_skip (Et.s (Ew.et (ew_or (et_gt (ev_len T.b_len (ev_nm 0 rfl) (.inl rfl)) (ev_glob (v := .int 6) gm ⟨_, rfl⟩ rfl)) fun _ => (ew_or1 (et_gt (ev_len T.b_len (ev_nm 1 rfl) (.inl rfl)) (ev_glob (v := .int 6) gm ⟨_, rfl⟩ rfl)))))) (gt_off w1)) ?_
  refine rns_cons (rn_skip (Et.s (et_eq (ev_len T.b_len (ev_nm 1 rfl) (.inl rfl)) ev_int)) (by rw [List.length_map, decide_eq_false (by omega)])) ?_
  refine rns_cons (rn_skip (Et.s (et_val (ev_any (bs := c.map fun x => decide (x < 0) || decide (9 < x)) T.b_any (ev_lcm (own := ["count"]) (fr := []) c di (fun x => tb (decide (x < 0) || decide (9 < x))) (fun i => lcs ⟨rfl, rfl, by decide +kernel, by decide +kernel, by decide +kernel, by decide +kernel⟩) (evi_list (ev_nm 0 rfl) rfl) (evg_nm 0 (fun _ => by show List.Nodup (["count"] : List Str); decide)) (by decide) (by omega) (fun x hx => ⟨_, rfl, by exact ev_or (ev_lt (ev_nm 0 rfl) ev_int) fun _ => ev_one (ev_gt (ev_nm 0 rfl) (ev_glob (v := .int 9) gm2 ⟨_, rfl⟩ rfl))⟩) (fun dd => by cases dd <;> rfl)) (er_mapB c _)))) (by simpa using w3)) ?_
  refine rns_cons (rn_expr (Ev.s (ev_call K_check_orders (Nat.le_refl _) (eva_cons (ev_nm 1 rfl) (eva_cons (ev_len T.b_len (ev_nm 0 rfl) (.inl rfl)) eva_nil)) ⟨os, c.length, sz.r, find_none w4, find_none w5, ?_, rfl⟩))) ?_
  rotate_left
  · rw [List.length_map]; rfl
  refine rns_one (rn_ret (Ev.s (Ev.to (ev_tup (eva_cons (ev_list T.b_list (ev_nm 0 rfl) (.inl rfl)) (eva_cons (ev_lcm (own := ["order"]) (fr := []) os dis tInts (fun i => lcs ⟨rfl, rfl, by decide +kernel, by decide +kernel, by decide +kernel, by decide +kernel⟩) (evi_list (ev_nm 1 rfl) rfl) (evg_nm 0 (fun _ => by show List.Nodup (["order"] : List Str); decide)) (by decide) (by omega) (fun o ho => ⟨_, rfl, Ev.to (ev_list T.b_list (ev_nm 0 rfl) (.inl rfl)) (by rw [ints_tr])⟩) (fun dd => by cases dd <;> rfl)) eva_nil)) (by show 2 ≤ sizeLine; decide)) (by rw [ints_tr]))))
def rTabX (c : Cs08) (dd : List Dv) (Ξ : Wish) : Prop := ∃ (cs : List Int) (os : List (List Int)), Sz08 cs os ∧ dd = [dis cs, .lst (os.map dis)] ∧ xiOf c (whyF cs os) = some Ξ
theorem ok_table_ofX {f f1 ft fw : Addr} {fd fd1 : FuncData} {k : Nat} {cs : Cs08} (F : Fun K "table_of" "table_of" s_table_of f fd) (T : Txt mg) (U : Txt08 K mg cs ft fw) (K_chkX : Kn P w K mg base (CXD P w) (k + 3) "check_orders" f1 fd1 ["orders", "many"] (spXG K (rChkX cs))) : FnOk P w K mg base (CXD P w) (k + 4) f fd ["counts", "orders"] (spXG K (rTabX cs)) := by
  refine fn_okXG F.d sc_table_of (fun dd Ξ h => by obtain ⟨_, _, _, rfl, _⟩ := h; rfl) fun dd Ξ h => ?_
  obtain ⟨c, os, sz, rfl, hw⟩ := h
  have big : 1000 < sizeLine := by decide
  have c6 := sz.c
  have o6 := sz.o
  obtain ⟨tk, gm⟩ := T.g_MOST
  obtain ⟨tk2, gm2⟩ := T.g_MOST_COUNT
  unfold whyF at hw
  split at hw
  · rename_i w1
    cases hw
    exact rzg_if (EtS.to (q := true) (Et.s (Ew.et (ew_or (et_gt (ev_len T.b_len (ev_nm 0 rfl) (.inl rfl)) (ev_glob (v := .int 6) gm ⟨_, rfl⟩ rfl)) fun _ => (ew_or1 (et_gt (ev_len T.b_len (ev_nm 1 rfl) (.inl rfl)) (ev_glob (v := .int 6) gm ⟨_, rfl⟩ rfl)))))) (gt_on w1)) (RzP.g (rzP_raise U.g_TooGreat U.x_TooGreat))
  rename_i w1
  refine rzg_cons (rn_skip (Et.s (Ew.et (ew_or (et_gt (ev_len T.b_len (ev_nm 0 rfl) (.inl rfl)) (ev_glob (v := .int 6) gm ⟨_, rfl⟩ rfl)) fun _ => (ew_or1 (et_gt (ev_len T.b_len (ev_nm 1 rfl) (.inl rfl)) (ev_glob (v := .int 6) gm ⟨_, rfl⟩ rfl)))))) (gt_off w1)) ?_
  split at hw
  · rename_i w2
    cases hw
    exact rzg_if (EtS.to (q := true) (Et.s (et_eq (ev_len T.b_len (ev_nm 1 rfl) (.inl rfl)) ev_int)) (by rw [List.length_map, decide_eq_true (by omega)])) (RzP.g (rzP_raise U.g_NoAsker U.x_NoAsker))
  rename_i w2
  refine rzg_cons (rn_skip (Et.s (et_eq (ev_len T.b_len (ev_nm 1 rfl) (.inl rfl)) ev_int)) (by rw [List.length_map, decide_eq_false (by omega)])) ?_
  split at hw
  · rename_i w3
    cases hw
    exact rzg_if (EtS.to (q := true) (Et.s (et_val (ev_any (bs := c.map fun x => decide (x < 0) || decide (9 < x)) T.b_any (ev_lcm (own := ["count"]) (fr := []) c di (fun x => tb (decide (x < 0) || decide (9 < x))) (fun i => lcs ⟨rfl, rfl, by decide +kernel, by decide +kernel, by decide +kernel, by decide +kernel⟩) (evi_list (ev_nm 0 rfl) rfl) (evg_nm 0 (fun _ => by show List.Nodup (["count"] : List Str); decide)) (by decide) (by omega) (fun x hx => ⟨_, rfl, by exact ev_or (ev_lt (ev_nm 0 rfl) ev_int) fun _ => ev_one (ev_gt (ev_nm 0 rfl) (ev_glob (v := .int 9) gm2 ⟨_, rfl⟩ rfl))⟩) (fun dd => by cases dd <;> rfl)) (er_mapB c _)))) w3) (RzP.g (rzP_raise U.g_NoNumber U.x_NoNumber))
  rename_i w3
  refine rzg_cons (rn_skip (Et.s (et_val (ev_any (bs := c.map fun x => decide (x < 0) || decide (9 < x)) T.b_any (ev_lcm (own := ["count"]) (fr := []) c di (fun x => tb (decide (x < 0) || decide (9 < x))) (fun i => lcs ⟨rfl, rfl, by decide +kernel, by decide +kernel, by decide +kernel, by decide +kernel⟩) (evi_list (ev_nm 0 rfl) rfl) (evg_nm 0 (fun _ => by show List.Nodup (["count"] : List Str); decide)) (by decide) (by omega) (fun x hx => ⟨_, rfl, by exact ev_or (ev_lt (ev_nm 0 rfl) ev_int) fun _ => ev_one (ev_gt (ev_nm 0 rfl) (ev_glob (v := .int 9) gm2 ⟨_, rfl⟩ rfl))⟩) (fun dd => by cases dd <;> rfl)) (er_mapB c _)))) (by simpa using w3)) ?_
  have la : Later Ξ := by
    split at hw
    · cases hw; exact later_D
    · split at hw
      · cases hw; exact later_D
      · cases hw
  refine rzg_expr K_chkX (Nat.le_refl _) (eva_cons (ev_nm 1 rfl) (eva_cons (ev_len T.b_len (ev_nm 0 rfl) (.inl rfl)) eva_nil)) ?_ la
  have e0 : ((c.map di).length : Int) = (c.length : Nat) := by rw [List.length_map]
  split at hw
  · rename_i j w4
    cases hw
    obtain ⟨o, h1, h2, h3⟩ := find_some w4
    exact ⟨os, c.length, j, o, sz.r, by show [_, di _] = _; rw [e0]; rfl, h1, .inl ⟨h2, h3, rfl⟩⟩
  · rename_i w4
    split at hw
    · rename_i j w5
      cases hw
      obtain ⟨o, h1, h2, h3⟩ := find_some w5
      exact ⟨os, c.length, j, o, sz.r, by show [_, di _] = _; rw [e0]; rfl, h1, .inr ⟨find_none w4, h2, h3, rfl⟩⟩
    · cases hw
end
end K46
namespace K46
open PySem L2
section
variable {P : Program} {w : World} {K : PySem.W.Frag} {mg : Str → Option Value} {base : Heap}
abbrev dTab (cs : List Int) (os : List (List Int)) : Dv := .tup [dis cs, .lst (os.map dis)]
abbrev s_check_asker : Stmt := top 21
theorem sc_check_asker : FnScope ["table", "asker"] ["table", "asker"] (defScope s_check_asker) := ⟨rfl, rfl, rfl, by decide +kernel, rfl, by decide +kernel, by decide +kernel⟩
theorem x1_tab (cs : List Int) (os : List (List Int)) : atI [dis cs, .lst (os.map dis)] 1 = some (.lst (os.map dis)) := rfl
theorem x0_tab (cs : List Int) (os : List (List Int)) : atI [dis cs, .lst (os.map dis)] 0 = some (dis cs) := rfl
def rAsk (dd : List Dv) (t : Tr) : Prop := ∃ (cs : List Int) (os : List (List Int)) (n : Int), 0 ≤ n ∧ n < os.length ∧ dd = [dTab cs os, di n] ∧ t = tn
theorem ok_check_asker {f : Addr} {fd : FuncData} {k : Nat} (F : Fun K "check_asker" "check_asker" s_check_asker f fd) (T : Txt mg) : FnOk P w K mg base CX0 (k + 1) f fd ["table", "asker"] (spT K rAsk) := by
  refine fn_ok F.d sc_check_asker (fun dd t h => by obtain ⟨_, _, _, _, _, rfl, _⟩ := h; rfl) fun dd t h => ?_
  obtain ⟨cs, os, n, n0, n1, rfl, rfl⟩ := h
  refine ⟨_, .inr ⟨rfl, [some (.fz (dTab cs os)), some (ti n)], rfl⟩, ?_⟩
  refine rns_one (rn_skip (Et.s (Ew.et (ew_or (p := false) (q := false) (Et.to (et_lt (ev_nm 1 rfl) ev_int) (decide_eq_false (by omega))) fun _ => ew_or1 (Et.to (et_ge (ev_nm 1 rfl) (ev_len T.b_len (ev_ixT (ev_nm 0 rfl) ev_int rfl (x1_tab cs os)) (.inl rfl))) (decide_eq_false (by rw [List.length_map]; omega)))))) rfl)
def rAskX (c : Cs08) (dd : List Dv) (Ξ : Wish) : Prop := ∃ (cs : List Int) (os : List (List Int)) (n : Int), (n < 0 ∨ (os.length : Nat) ≤ n) ∧ dd = [dTab cs os, di n] ∧ Ξ = fun G H E => KxP G H c.NoAsker E
theorem ok_check_askerX {f ft fw : Addr} {fd : FuncData} {k : Nat} {c : Cs08} (F : Fun K "check_asker" "check_asker" s_check_asker f fd) (T : Txt mg) (U : Txt08 K mg c ft fw) : FnOk P w K mg base (CXD P w) (k + 1) f fd ["table", "asker"] (spXG K (rAskX c)) := by
  refine fn_okXG F.d sc_check_asker (fun dd Ξ h => by obtain ⟨_, _, _, _, rfl, _⟩ := h; rfl) fun dd Ξ h => ?_
  obtain ⟨cs, os, n, hn, rfl, rfl⟩ := h
  refine rzg_if (EtS.to (q := true) (Et.s (Ew.et (ew_or (et_lt (ev_nm 1 rfl) ev_int) fun _ => ew_or1 (et_ge (ev_nm 1 rfl) (ev_len T.b_len (ev_ixT (ev_nm 0 rfl) ev_int rfl (x1_tab cs os)) (.inl rfl)))))) ?_) (RzP.g (rzP_raise U.g_NoAsker U.x_NoAsker))
  rw [List.length_map]
  rcases hn with h | h
  · rw [decide_eq_true h]; rfl
  · rw [decide_eq_true h, Bool.or_true]
abbrev nTO : List Str := ["table", "asker", "order", "orders"]
abbrev s_told_otherwise : Stmt := top 22
theorem sc_told_otherwise : FnScope nTO ["table", "asker", "order"] (defScope s_told_otherwise) := ⟨rfl, rfl, rfl, by decide +kernel, rfl, by decide +kernel, by decide +kernel⟩
structure In46 (cs : List Int) (os : List (List Int)) (n : Int) (o : List Int) : Prop where
  z : Sz08 cs os
  o : o.length ≤ 100
  n0 : 0 ≤ n
  n1 : n < os.length
theorem In46.sz {cs : List Int} {os : List (List Int)} {n : Int} {o : List Int} (h : In46 cs os n o) : Sz08 cs (os.set n.toNat o) := ⟨h.z.c, by rw [List.length_set]; exact h.z.o, fun o' ho => by
  rcases List.mem_or_eq_of_mem_set ho with z | rfl
  · exact h.z.r o' z
  · exact h.o⟩
theorem er_rowset (os : List (List Int)) (n : Nat) (o : List Int) : er (.ow (((os.map dis).map Tr.fz).set n (.fz (dis o)))) = .lst ((os.set n o).map dis) := by
  rw [← List.map_set, ← List.map_set, er_fzs]
theorem ix_tab {os : List (List Int)} {n : Int} (n0 : 0 ≤ n) (n1 : n < os.length) : ixN ((os.map dis).map Tr.fz).length n = some n.toNat := by
  unfold ixN
  rw [List.length_map, List.length_map, if_pos n0, if_pos (by omega)]
def rTO (dd : List Dv) (t : Tr) : Prop := ∃ (cs : List Int) (os : List (List Int)) (n : Int) (o : List Int), In46 cs os n o ∧ whyF cs (os.set n.toNat o) = .made ∧ dd = [dTab cs os, di n, dis o] ∧ t = .tp [tInts cs, tRows (os.set n.toNat o)]
theorem ok_told_otherwise {f f1 f2 : Addr} {fd fd1 fd2 : FuncData} {k : Nat} (F : Fun K "told_otherwise" "told_otherwise" s_told_otherwise f fd) (T : Txt mg) (K_check_asker : Kn P w K mg base CX0 (k + 1) "check_asker" f1 fd1 ["table", "asker"] (spT K rAsk)) (K_table_of : Kn P w K mg base CX0 (k + 2) "table_of" f2 fd2 ["counts", "orders"] (spT K rTab)) : FnOk P w K mg base CX0 (k + 3) f fd ["table", "asker", "order"] (spT K rTO) := by
  refine fn_ok F.d sc_told_otherwise (fun dd t h => by obtain ⟨_, _, _, _, _, _, rfl, _⟩ := h; rfl) fun dd t h => ?_
  obtain ⟨cs, os, n, o, hi, hm, rfl, rfl⟩ := h
  refine ⟨_, .inl rfl, ?_⟩
  refine rns_cons (rn_expr (Ev.s (ev_call K_check_asker (by show k + 1 ≤ k + 2; omega) (eva_cons (ev_nm 0 rfl) (eva_cons (ev_nm 1 rfl) eva_nil)) ⟨cs, os, n, hi.n0, hi.n1, rfl, rfl⟩))) ?_
  refine rns_cons (rn_set 3 (Ev.s (ev_list T.b_list (ev_ixT (ev_nm 0 rfl) ev_int rfl (x1_tab cs os)) (.inl rfl))) (fun _ => sc_told_otherwise.nd)) ?_
  refine rns_cons (rn_ixset 3 (n := n) (m := n.toNat) (us := (os.map dis).map Tr.fz) (t := .fz (dis o)) rfl (Ev.s (ev_nm 1 rfl)) (ix_tab hi.n0 hi.n1) (Ev.s (ev_nm 2 rfl)) (hps := fun i => pg_sub (pv 3) (uE_ok i) set_list)) ?_
  refine rns_frz 3 rfl ?_
  rw [er_rowset]
  show Rns _ _ [some (.fz (dTab cs os)), some (ti n), some (.fz (dis o)), some (.fz (.lst ((os.set n.toNat o).map dis)))] _
  exact rns_one (rn_ret (Ev.s (ev_call K_table_of (Nat.le_refl _) (eva_cons (ev_ixT (ev_nm 0 rfl) ev_int rfl (x0_tab cs os)) (eva_cons (ev_nm 3 rfl) eva_nil)) ⟨cs, os.set n.toNat o, hi.sz, hm, rfl, rfl⟩)))
def rTOX (c : Cs08) (dd : List Dv) (Ξ : Wish) : Prop := ∃ (cs : List Int) (os : List (List Int)) (n : Int) (o : List Int), dd = [dTab cs os, di n, dis o] ∧ (((n < 0 ∨ (os.length : Nat) ≤ n) ∧ Ξ = fun G H E => KxP G H c.NoAsker E) ∨ (In46 cs os n o ∧ xiOf c (whyF cs (os.set n.toNat o)) = some Ξ))
theorem later_xi {c : Cs08} {ω : Why} {Ξ : Wish} (h : xiOf c ω = some Ξ) : Later Ξ := by
  cases ω with
  | great => cases h; exact later_P
  | asker => cases h; exact later_P
  | number => cases h; exact later_P
  | thing j => cases h; exact later_D
  | twice j => cases h; exact later_D
  | made => cases h
theorem ok_told_otherwiseX {f f1 f2 ft fw : Addr} {fd fd1 fd2 : FuncData} {k : Nat} {c : Cs08} (F : Fun K "told_otherwise" "told_otherwise" s_told_otherwise f fd) (T : Txt mg) (U : Txt08 K mg c ft fw) (K_check_asker : Kn P w K mg base CX0 (k + 1) "check_asker" f1 fd1 ["table", "asker"] (spT K rAsk)) (K_check_askerX : Kn P w K mg base (CXD P w) (k + 1) "check_asker" f1 fd1 ["table", "asker"] (spXG K (rAskX c))) (K_table_ofX : Kn P w K mg base (CXD P w) (k + 4) "table_of" f2 fd2 ["counts", "orders"] (spXG K (rTabX c))) : FnOk P w K mg base (CXD P w) (k + 5) f fd ["table", "asker", "order"] (spXG K (rTOX c)) := by
  refine fn_okXG F.d sc_told_otherwise (fun dd Ξ h => by obtain ⟨_, _, _, _, rfl, _⟩ := h; rfl) fun dd Ξ h => ?_
  obtain ⟨cs, os, n, o, rfl, h⟩ := h
  rcases h with ⟨hn, rfl⟩ | ⟨hi, hx⟩
  · exact rzg_expr K_check_askerX (by omega) (eva_cons (ev_nm 0 rfl) (eva_cons (ev_nm 1 rfl) eva_nil)) ⟨cs, os, n, hn, rfl, rfl⟩ later_P
  refine rzg_cons (rn_expr (Ev.s (ev_call K_check_asker (by show k + 1 ≤ k + 4; omega) (eva_cons (ev_nm 0 rfl) (eva_cons (ev_nm 1 rfl) eva_nil)) ⟨cs, os, n, hi.n0, hi.n1, rfl, rfl⟩))) ?_
  refine rzg_cons (rn_set 3 (Ev.s (ev_list T.b_list (ev_ixT (ev_nm 0 rfl) ev_int rfl (x1_tab cs os)) (.inl rfl))) (fun _ => sc_told_otherwise.nd)) ?_
  refine rzg_cons (rn_ixset 3 (n := n) (m := n.toNat) (us := (os.map dis).map Tr.fz) (t := .fz (dis o)) rfl (Ev.s (ev_nm 1 rfl)) (ix_tab hi.n0 hi.n1) (Ev.s (ev_nm 2 rfl)) (hps := fun i => pg_sub (pv 3) (uE_ok i) set_list)) ?_
  refine rzg_ret K_table_ofX (Nat.le_refl _) (eva_cons (ev_ixT (ev_nm 0 rfl) ev_int rfl (x0_tab cs os)) (eva_cons (ev_nm 3 rfl) eva_nil)) ⟨cs, os.set n.toNat o, hi.sz, ?_, hx⟩ (later_xi hx)
  show [dis cs, er (.fz (er _))] = _
  rw [show ∀ d, er (.fz d) = d from fun _ => rfl, er_rowset]
end
end K46
namespace K46
open PySem L2
section
variable {P : Program} {w : World} {K : PySem.W.Frag} {mg : Str → Option Value} {base : Heap}
abbrev nCL : List Str := ["_law_e", "_law_some"]
abbrev s__law_classes : Stmt := top 27
theorem sc__law_classes : FnScope nCL ["_law_e"] (defScope s__law_classes) := ⟨rfl, rfl, rfl, by decide +kernel, rfl, by decide +kernel, by decide +kernel⟩
theorem lcsH {N : List Str} {qual : Str} {sc0 sc : Scope} {f : Addr} {cd : Value} {A : Around} {outer : List Env} {s : Shared} {H : Hp} {fr : List Nat} (L : LcNames N sc0 sc fr) : LcScope (cxH P w K mg base N qual sc0 f cd A outer s H) sc (closF (cellsFrom (s.heap.objs.size + 1) sc0.names []) sc.names []) fr := by
  have Z := lcs (CX := CX0) (P := P) (w := w) (K := K) (mg := mg) (base := base) (qual := qual) (f := f) (cd := cd) (A := A) (outer := outer) (s := s) (H := H) (E := fun _ _ _ => False) (XE := fun _ _ => False) L
  exact ⟨Z.clos, Z.kind, Z.cells, Z.names, Z.sub, Z.has, Z.frN⟩
theorem catK {X : Cx} {K : PySem.W.Frag} (h : X.K = K) : OpR X (binaryOp .Add) (rCatL K) := h ▸ op_catL
def fl14 (ans : List Bool) : List Bool := [false, (ans.getD 0 false), (ans.getD 1 false), (ans.getD 3 false), (ans.getD 4 false), (ans.getD 2 false), false, false, false, false, false, false, false, true]
def ixs (fl : List Bool) (n : Nat) : List Int := ((List.range n).filter fun i => fl.getD i false).map fun (i : Nat) => (0 + (i : Int))
theorem ixs_succ (fl : List Bool) (n : Nat) : ixs fl (n + 1) = if fl.getD n false = true then ixs fl n ++ [0 + (n : Int)] else ixs fl n := by
  unfold ixs
  rw [List.range_succ, List.filter_append, List.map_append, List.filter_cons, List.filter_nil]
  cases h : fl.getD n false <;> simp
theorem ixs_len (fl : List Bool) (n : Nat) : (ixs fl n).length ≤ n := by
  unfold ixs
  rw [List.length_map]
  have := List.length_filter_le (fun i => fl.getD i false) (List.range n)
  rw [List.length_range] at this
  exact this
theorem fl14_get (ans : List Bool) (i : Nat) (h : i < 14) : atI ((fl14 ans).map V.bl) (0 + (i : Int)) = some (.bl ((fl14 ans).getD i false)) := by
  have h' : i < (fl14 ans).length := h
  rw [Int.zero_add]
  exact atI_nat (by rw [List.getElem?_map, List.getElem?_eq_getElem h', List.getD_eq_getElem?_getD, List.getElem?_eq_getElem h']; rfl)
def spCls (K : PySem.W.Frag) (mg : Str → Option Value) (c : Cs08) (x : Addr) : Sp := fun vs H Q _ => ∃ (N : Addr) (d : Option Addr) (ans : List Bool), vs = [.ref x] ∧ H x = some (ExcD x N d) ∧ Exc08 K mg c N ans ∧ ∀ l H', Same H H' → H l = none → H' l = some (.lst ((ixs (fl14 ans) 14).map V.int)) → Q (.ref l) H'
theorem ok__law_classes {f ft fw : Addr} {fd : FuncData} {c : Cs08} (F : Fun K "_law_classes" "_law_classes" s__law_classes f fd) (T : Txt mg) (U : Txt08 K mg c ft fw) : FnOkH P w K mg base 1 f fd ["_law_e"] (spCls K mg c) := by
  refine F.d.okH sc__law_classes (fun x vs H Q E ⟨_, _, _, h, _⟩ => by rw [h]; rfl) fun x cdv A outer s H vs Q hh hr h => ?_
  obtain ⟨N, d, ans, rfl, he, X, q⟩ := h
  refine ⟨_, pss_cons (ps_set (i := 1) sc__law_classes.nd rfl (Or.inr rfl) (pe_lst (pa_cons (pe_callB (call_isiD (K := K) rfl) (by rfl) T.b_isinstance bt_isinstance (pa_cons (pv 0) (pa_cons (pe_glob (v := .ref c.NoTurns) (by rfl) U.g_NoTurns rfl) pa_nil))) (pa_cons (pe_callB (call_isiD (K := K) rfl) (by rfl) T.b_isinstance bt_isinstance (pa_cons (pv 0) (pa_cons (pe_glob (v := .ref c.TooGreat) (by rfl) U.g_TooGreat rfl) pa_nil))) (pa_cons (pe_callB (call_isiD (K := K) rfl) (by rfl) T.b_isinstance bt_isinstance (pa_cons (pv 0) (pa_cons (pe_glob (v := .ref c.NoAsker) (by rfl) U.g_NoAsker rfl) pa_nil))) (pa_cons (pe_callB (call_isiD (K := K) rfl) (by rfl) T.b_isinstance bt_isinstance (pa_cons (pv 0) (pa_cons (pe_glob (v := .ref c.NoThing) (by rfl) U.g_NoThing rfl) pa_nil))) pa_nil))))))
    (pss_cons (ps_set (i := 1) sc__law_classes.nd rfl (Or.inr rfl) (pe_op (catK (K := K) rfl) (pv 1) (pe_lst (pa_cons (pe_callB (call_isiD (K := K) rfl) (by rfl) T.b_isinstance bt_isinstance (pa_cons (pv 0) (pa_cons (pe_glob (v := .ref c.Twice) (by rfl) U.g_Twice rfl) pa_nil))) (pa_cons (pe_callB (call_isiD (K := K) rfl) (by rfl) T.b_isinstance bt_isinstance (pa_cons (pv 0) (pa_cons (pe_glob (v := .ref c.NoNumber) (by rfl) U.g_NoNumber rfl) pa_nil))) (pa_cons (pe_callB (call_isiD (K := K) rfl) (by rfl) T.b_isinstance bt_isinstance (pa_cons (pv 0) (pa_cons (pe_glob (v := .ref c.NoText) (by rfl) U.g_NoText rfl) pa_nil))) (pa_cons (pe_callB (call_isiD (K := K) rfl) (by rfl) T.b_isinstance bt_isinstance (pa_cons (pv 0) (pa_cons (pe_glob (v := .ref c.NoShares) (by rfl) U.g_NoShares rfl) pa_nil))) pa_nil)))))))
    (pss_cons (ps_set (i := 1) sc__law_classes.nd rfl (Or.inr rfl) (pe_op (catK (K := K) rfl) (pv 1) (pe_lst (pa_cons (pe_callB (call_isiD (K := K) rfl) (by rfl) T.b_isinstance bt_isinstance (pa_cons (pv 0) (pa_cons (pe_glob (v := .ref c.NoTicket) (by rfl) U.g_NoTicket rfl) pa_nil))) (pa_cons (pe_callB (call_isiD (K := K) rfl) (by rfl) T.b_isinstance bt_isinstance (pa_cons (pv 0) (pa_cons (pe_glob (v := .ref c.NoName) (by rfl) U.g_NoName rfl) pa_nil))) (pa_cons (pe_callB (call_isiD (K := K) rfl) (by rfl) T.b_isinstance bt_isinstance (pa_cons (pv 0) (pa_cons (pe_glob (v := .ref c.Double) (by rfl) U.g_Double rfl) pa_nil))) (pa_cons (pe_callB (call_isiD (K := K) rfl) (by rfl) T.b_isinstance bt_isinstance (pa_cons (pv 0) (pa_cons (pe_glob (v := .ref c.NoRow) (by rfl) U.g_NoRow rfl) pa_nil))) pa_nil)))))))
    (pss_cons (ps_set (i := 1) sc__law_classes.nd rfl (Or.inr rfl) (pe_op (catK (K := K) rfl) (pv 1) (pe_lst (pa_cons (pe_callB (call_isiD (K := K) rfl) (by rfl) T.b_isinstance bt_isinstance (pa_cons (pv 0) (pa_cons (pe_glob (v := .ref c.NoTable) (by rfl) U.g_NoTable rfl) pa_nil))) (pa_cons (pe_callB (call_isiD (K := K) rfl) (by rfl) T.b_isinstance bt_isinstance (pa_cons (pv 0) (pa_cons (pe_bltn (v := .ty "ValueError") (by rfl) U.b_ValueError bt_ValueError rfl) pa_nil))) pa_nil)))))
    (pss_one (ps_ret (pe_lcH (X := (cxH P w K mg base nCL "_law_classes" (defScope s__law_classes) f cdv A outer s H)) (own := ["_law_k"]) (fr := [1]) (lcsH ⟨rfl, rfl, by decide +kernel, by decide +kernel, by decide +kernel, by decide +kernel⟩) (pi_rangeH hh rfl T.b_range (pa_cons pe_int pa_nil)) (fun C s H ex pn => pg_name (i := 0) (by show List.Nodup (["_law_k", "_law_some"] : List Str); decide) rfl (Or.inl rfl)) (fun C s H ex pn => lc_t1 (pt_val (pe_ix (ix_listK (K := K) rfl) (pv (x := "_law_some") 1) (pv (x := "_law_k") 0) (fun _ _ => rfl))) rfl) (fun C s H ex pn => pv (x := "_law_k") 0))))))), ?_⟩
  show tSeq _ _ _ [some (.ref x), none] H
  refine ⟨_, rfl, x, _, _, _, d, rfl, he, X.a, (fun u r => by cases r; exact X.o_NoTurns), _, rfl, x, _, _, _, d, rfl, he, X.a, (fun u r => by cases r; exact X.q0), _, rfl, x, _, _, _, d, rfl, he, X.a, (fun u r => by cases r; exact X.q1), _, rfl, x, _, _, _, d, rfl, he, X.a, (fun u r => by cases r; exact X.q3), by show 4 ≤ sizeLine; decide, fun l1 hl1 => ?_⟩
  generalize hb1 : [V.bl false, V.bl (ans.getD 0 false), V.bl (ans.getD 1 false), V.bl (ans.getD 3 false)] = B1
  have zb1 : B1.length = 4 := by rw [← hb1]; rfl
  have e1 : Same H (upd H l1 (.lst B1)) := Same.new hl1
  have g1 : upd H l1 (.lst B1) l1 = some (.lst B1) := upd_same
  have x1 := e1 _ _ he
  show tSeq _ _ _ [some (.ref x), some (.ref l1)] (upd H l1 (.lst B1))
  generalize upd H l1 (.lst B1) = H1 at e1 g1 x1
  refine ⟨_, rfl, _, rfl, x, _, _, _, d, rfl, x1, X.a, (fun u r => by cases r; exact X.q4), _, rfl, x, _, _, _, d, rfl, x1, X.a, (fun u r => by cases r; exact X.q2), _, rfl, x, _, _, _, d, rfl, x1, X.a, (fun u r => by cases r; exact X.o_NoText), _, rfl, x, _, _, _, d, rfl, x1, X.a, (fun u r => by cases r; exact X.o_NoShares), by show 4 ≤ sizeLine; decide, fun m1 hm1 => ?_⟩
  have f1 : Same H1 (upd H1 m1 (.lst [V.bl (ans.getD 4 false), V.bl (ans.getD 2 false), V.bl false, V.bl false])) := Same.new hm1
  refine ⟨l1, m1, _, _, rfl, rfl, SqL.of (f1 _ _ g1), SqL.of upd_same, by rw [zb1]; show 8 ≤ sizeLine; decide, fun l2 hl2 => ?_⟩
  have f1' : Same H (upd H1 m1 (.lst [V.bl (ans.getD 4 false), V.bl (ans.getD 2 false), V.bl false, V.bl false])) := e1.trans f1
  generalize upd H1 m1 (.lst [V.bl (ans.getD 4 false), V.bl (ans.getD 2 false), V.bl false, V.bl false]) = J1 at f1 f1' hl2
  generalize hb2 : B1 ++ [V.bl (ans.getD 4 false), V.bl (ans.getD 2 false), V.bl false, V.bl false] = B2
  have zb2 : B2.length = 8 := by rw [← hb2, List.length_append, zb1]; rfl
  have e2 : Same H (upd J1 l2 (.lst B2)) := f1'.trans (Same.new hl2)
  have g2 : upd J1 l2 (.lst B2) l2 = some (.lst B2) := upd_same
  have x2 := e2 _ _ he
  show tSeq _ _ _ [some (.ref x), some (.ref l2)] (upd J1 l2 (.lst B2))
  generalize upd J1 l2 (.lst B2) = H2 at e2 g2 x2
  refine ⟨_, rfl, _, rfl, x, _, _, _, d, rfl, x2, X.a, (fun u r => by cases r; exact X.o_NoTicket), _, rfl, x, _, _, _, d, rfl, x2, X.a, (fun u r => by cases r; exact X.o_NoName), _, rfl, x, _, _, _, d, rfl, x2, X.a, (fun u r => by cases r; exact X.o_Double), _, rfl, x, _, _, _, d, rfl, x2, X.a, (fun u r => by cases r; exact X.o_NoRow), by show 4 ≤ sizeLine; decide, fun m2 hm2 => ?_⟩
  have f2 : Same H2 (upd H2 m2 (.lst [V.bl false, V.bl false, V.bl false, V.bl false])) := Same.new hm2
  refine ⟨l2, m2, _, _, rfl, rfl, SqL.of (f2 _ _ g2), SqL.of upd_same, by rw [zb2]; show 12 ≤ sizeLine; decide, fun l3 hl3 => ?_⟩
  have f2' : Same H (upd H2 m2 (.lst [V.bl false, V.bl false, V.bl false, V.bl false])) := e2.trans f2
  generalize upd H2 m2 (.lst [V.bl false, V.bl false, V.bl false, V.bl false]) = J2 at f2 f2' hl3
  generalize hb3 : B2 ++ [V.bl false, V.bl false, V.bl false, V.bl false] = B3
  have zb3 : B3.length = 12 := by rw [← hb3, List.length_append, zb2]; rfl
  have e3 : Same H (upd J2 l3 (.lst B3)) := f2'.trans (Same.new hl3)
  have g3 : upd J2 l3 (.lst B3) l3 = some (.lst B3) := upd_same
  have x3 := e3 _ _ he
  show tSeq _ _ _ [some (.ref x), some (.ref l3)] (upd J2 l3 (.lst B3))
  generalize upd J2 l3 (.lst B3) = H3 at e3 g3 x3
  refine ⟨_, rfl, _, rfl, x, _, _, _, d, rfl, x3, X.a, (fun u r => by cases r; exact X.o_NoTable), _, rfl, x, _, _, _, d, rfl, x3, X.a, (fun u r => by cases r; exact X.v), by show 2 ≤ sizeLine; decide, fun m3 hm3 => ?_⟩
  have f3 : Same H3 (upd H3 m3 (.lst [V.bl false, V.bl true])) := Same.new hm3
  refine ⟨l3, m3, _, _, rfl, rfl, SqL.of (f3 _ _ g3), SqL.of upd_same, by rw [zb3]; show 14 ≤ sizeLine; decide, fun l4 hl4 => ?_⟩
  have f3' : Same H (upd H3 m3 (.lst [V.bl false, V.bl true])) := e3.trans f3
  generalize upd H3 m3 (.lst [V.bl false, V.bl true]) = J3 at f3 f3' hl4
  generalize hb4 : B3 ++ [V.bl false, V.bl true] = B4
  have zb4 : B4.length = 14 := by rw [← hb4, List.length_append, zb3]; rfl
  have e4 : Same H (upd J3 l4 (.lst B4)) := f3'.trans (Same.new hl4)
  have g4 : upd J3 l4 (.lst B4) l4 = some (.lst B4) := upd_same
  have x4 := e4 _ _ he
  dsimp only [gName, List.set, tRet]
  show tLc _ _ _ _ _ _ [some (.ref x), some (.ref l4)] (upd J3 l4 (.lst B4)) _
  generalize upd J3 l4 (.lst B4) = H4 at e4 g4 x4
  have hB : B4 = (fl14 ans).map V.bl := by rw [← hb4, ← hb3, ← hb2, ← hb1]; rfl
  subst hB
  generalize hfl : fl14 ans = fl at *
  have flg : ∀ i : Nat, i < 14 → atI (fl.map V.bl) (0 + (i : Int)) = some (.bl (fl.getD i false)) := fun i hi => by rw [← hfl]; exact fl14_get ans i hi
  refine ⟨14, rfl, by decide, by decide, fun acc hacc => ?_⟩
  have na : x ≠ acc := fun z => by rw [z, hacc] at x4; cases x4
  have nl : l4 ≠ acc := fun z => by rw [z, hacc] at g4; cases g4
  refine ⟨fun i m ys σ1 H2 => i + m = 14 ∧ ys = (ixs fl i).map V.int ∧ (∃ o, σ1 = [o, some (.ref l4)]) ∧ H2 = upd H4 acc (.lst ys), ⟨14, rfl, rfl, ⟨none, rfl⟩, rfl⟩, ?_⟩
  rintro i m ys σ1 H2 ⟨hi, rfl, ⟨o, rfl⟩, rfl⟩
  have il := ixs_len fl i
  have big : 1000 < sizeLine := by decide
  refine ⟨upd_same, by rw [List.length_map]; omega, ?_⟩
  by_cases h14 : i = 14
  · subst h14
    refine .inl ⟨⟨Nat.le_refl _, _, _, by rw [upd_ne na]; exact x4⟩, q acc _ (e4.trans (Same.new hacc)) (e4.free hacc) ?_⟩
    rw [upd_same]
  · refine .inr ⟨by show i < 14; omega, fun ys σ1 H2 => ys = (ixs fl (i + 1)).map V.int ∧ (∃ o, σ1 = [o, some (.ref l4)]) ∧ H2 = upd H4 acc (.lst ys), fun zs σ2 H3 z => ⟨m - 1, by omega, by omega, z⟩, ?_⟩
    rintro v H3 ⟨rfl, rfl⟩
    have lt : i < 14 := by omega
    refine ⟨_, rfl, _, rfl, l4, _, _, _, rfl, rfl, SqL.of (by rw [upd_ne nl]; exact g4), flg i lt, _, rfl, ?_⟩
    have es := ixs_succ fl i
    cases hb : fl.getD i false with
    | true =>
      rw [hb, if_pos rfl] at es
      refine iteT ⟨_, rfl, upd_same, by rw [es, List.map_append]; rfl, ⟨_, rfl⟩, ?_⟩
      rw [upd_upd]
    | false =>
      rw [hb, if_neg (by decide)] at es
      exact iteF ⟨by rw [es], ⟨_, rfl⟩, rfl⟩
end
end K46
namespace K46
open PySem L2
section
variable {P : Program} {w : World} {K : PySem.W.Frag} {mg : Str → Option Value} {base : Heap}
structure KnH (P : Program) (w : World) (K : PySem.W.Frag) (mg : Str → Option Value) (base : Heap) (k : Nat) (x : Str) (f : Addr) (fd : FuncData) (ps : List Str) (sp : Addr → Sp) : Prop where
  ok : FnOkH P w K mg base k f fd ps sp
  mgx : mg x = some (.ref f)
  kp : PySem.W.keepIn K (.ref f) = true
  bd : Binds K fd ps []
def tryH : Stmt → List Stmt
  | .Try _ (.ExceptHandler _ _ b _ :: _) _ _ _ => b
  | _ => []
def nameOf (c : Cs08) : Why → Addr
  | .great => c.TooGreat
  | .asker => c.NoAsker
  | .number => c.NoNumber
  | .thing _ => c.NoThing
  | .twice _ => c.Twice
  | .made => c.TooGreat
def ansOf : Why → List Bool
  | .great => [true, false, false, false, false]
  | .asker => [false, true, false, false, false]
  | .number => [false, false, true, false, false]
  | .thing _ => [false, false, false, true, false]
  | .twice _ => [false, false, false, false, true]
  | .made => [true, false, false, false, false]
def wOf (c : Cs08) : Why → Hp → Addr → Prop
  | .great => fun H x => H x = some (ExcD x c.TooGreat none)
  | .asker => fun H x => H x = some (ExcD x c.NoAsker none)
  | .number => fun H x => H x = some (ExcD x c.NoNumber none)
  | .thing j => fun H x => ∃ dx, H x = some (ExcD x c.NoThing (some dx)) ∧ H dx = some (.xd [("asker", .int j)])
  | .twice j => fun H x => ∃ dx, H x = some (ExcD x c.Twice (some dx)) ∧ H dx = some (.xd [("asker", .int j)])
  | .made => fun _ _ => False
theorem lands08 {c : Cs08} {ω : Why} {Ξ : Wish} (h : xiOf c ω = some Ξ) : Lands Ξ (nameOf c ω) (wOf c ω) := by
  cases ω with
  | great => cases h; exact lands_P
  | asker => cases h; exact lands_P
  | number => cases h; exact lands_P
  | thing j => cases h; exact lands_D
  | twice j => cases h; exact lands_D
  | made => cases h
theorem exc08 {c : Cs08} {ft fw : Addr} (U : Txt08 K mg c ft fw) (ω : Why) : Exc08 K mg c (nameOf c ω) (ansOf ω) := by
  cases ω with
  | great => exact U.e_TooGreat
  | asker => exact U.e_NoAsker
  | number => exact U.e_NoNumber
  | thing j => exact U.e_NoThing
  | twice j => exact U.e_Twice
  | made => exact U.e_TooGreat
def cOf (c : Cs08) : Why → Addr
  | .twice _ => c.Twice
  | _ => c.NoThing
theorem fld08 {c : Cs08} {ft fw : Addr} (U : Txt08 K mg c ft fw) (ω : Why) : Asks K (cOf c ω) ∧ PySem.W.hasDictIn K (cOf c ω) = true ∧ NoAttr K (cOf c ω) "asker" := by
  cases ω with
  | twice j => exact ⟨U.e_Twice.a, U.hw, U.nw⟩
  | _ => exact ⟨U.e_NoThing.a, U.ht, U.nt⟩
theorem at08 {c : Cs08} {ω : Why} {H : Hp} {x : Addr} (h : wOf c ω H x) : ∃ d, H x = some (ExcD x (nameOf c ω) d) := by
  cases ω with
  | great => exact ⟨_, h⟩
  | asker => exact ⟨_, h⟩
  | number => exact ⟨_, h⟩
  | thing j => obtain ⟨dx, h, _⟩ := h; exact ⟨_, h⟩
  | twice j => obtain ⟨dx, h, _⟩ := h; exact ⟨_, h⟩
  | made => exact h.elim
def clsF : Why → List Int
  | .great => [1, 13]
  | .asker => [2, 13]
  | .number => [5, 13]
  | .thing _ => [3, 13]
  | .twice _ => [4, 13]
  | .made => []
def fldV : Why → V
  | .thing j => .int j
  | .twice j => .int j
  | _ => .non
theorem cls_ix {ω : Why} (h : ω ≠ .made) : ixs (fl14 (ansOf ω)) 14 = clsF ω := by
  cases ω with
  | made => exact absurd rfl h
  | _ => rfl
abbrev nTL : List Str := ["_law_table_here", "_law_asker", "_law_order_here", "_law_some", "_law_field", "_law_made", "_law_e"]
abbrev s__law_told : Stmt := top 28
theorem sc__law_told : FnScope nTL ["_law_table_here", "_law_asker", "_law_order_here"] (defScope s__law_told) := ⟨rfl, rfl, rfl, by decide +kernel, rfl, by decide +kernel, by decide +kernel⟩
theorem suite46 {f ft fw f2 : Addr} {fd2 : FuncData} {k : Nat} {c : Cs08} (T : Txt mg) (U : Txt08 K mg c ft fw) (K_cls : KnH P w K mg base 1 "_law_classes" f2 fd2 ["_law_e"] (spCls K mg c)) (t0 t1 t2 : Tr) (ω : Why) :
    ∃ th : Addr → TS, (∀ q a, PSs (((famD P w K mg base nTL "_law_told" (defScope s__law_told) f (k + 1)).cx q).suite (.ref a)) (tryH ((defBody s__law_told).getD 3 (.Pass ⟨0, 0, 0, 0⟩))) (th a)) ∧ ∀ (E : Ends) σ G0 H0 G H a, RS K G0 H0 G H [some t0, some t1, some t2, some (.ow []), some tn, some tn, none] σ → σ[6]? = some (some (.ref a)) → wOf c ω H a → (∀ σ' G' H', RS K G0 H0 G' H' [some t0, some t1, some t2, some (tInts (clsF ω)), some (.fz (.fl (fldV ω))), some tn, none] σ' → E.nx σ' H') → th a E σ H := by
  obtain ⟨fa, fh, fn⟩ := fld08 U ω
  obtain ⟨τ2, h2, m2⟩ : ∃ τ2 : TS, (∀ q a, PS (((famD P w K mg base nTL "_law_told" (defScope s__law_told) f (k + 1)).cx q).suite (.ref a)) ((tryH ((defBody s__law_told).getD 3 (.Pass ⟨0, 0, 0, 0⟩))).getD 1 (.Pass ⟨0, 0, 0, 0⟩)) τ2) ∧ ∀ (E : Ends) (s0 s1 s2 s3 s5 : Option V) (H : Hp) (a : Addr), wOf c ω H a → E.nx [s0, s1, s2, s3, some (fldV ω), s5, some (.ref a)] H → τ2 E [s0, s1, s2, s3, some .non, s5, some (.ref a)] H := by
    refine ⟨_, (fun q a => ps_if (PW.pt (pw_or (pt_val (pe_callB (call_isiD (K := K) rfl) (by rfl) T.b_isinstance bt_isinstance (pa_cons (pv 6) (pa_cons (pe_glob (v := .ref c.NoThing) (by rfl) U.g_NoThing rfl) pa_nil)))) (pw_or1 (pt_val (pe_callB (call_isiD (K := K) rfl) (by rfl) T.b_isinstance bt_isinstance (pa_cons (pv 6) (pa_cons (pe_glob (v := .ref c.Twice) (by rfl) U.g_Twice rfl) pa_nil))))))) (pss_one (ps_set (i := 4) sc__law_told.nd rfl (Or.inl rfl) (pe_fldD fa fh fn (pv 6)))) pss_nil), fun E s0 s1 s2 s3 s5 H a hw kk => ?_⟩
    have X := exc08 U ω
    obtain ⟨d, he⟩ := at08 hw
    cases ω with
    | made => exact hw.elim
    | thing j =>
      obtain ⟨dx, h1, h2⟩ := hw
      exact ⟨_, rfl, a, _, _, _, d, rfl, he, X.a, (fun u r => by cases r; exact X.q3), true, rfl, iteT (iteT ⟨_, rfl, a, dx, _, rfl, h1, h2, kk⟩)⟩
    | twice j =>
      obtain ⟨dx, h1, h2⟩ := hw
      exact ⟨_, rfl, a, _, _, _, d, rfl, he, X.a, (fun u r => by cases r; exact X.q3), false, rfl, iteF ⟨_, rfl, a, _, _, _, d, rfl, he, X.a, (fun u r => by cases r; exact X.q4), true, rfl, iteT ⟨_, rfl, a, dx, _, rfl, h1, h2, kk⟩⟩⟩
    | _ => exact ⟨_, rfl, a, _, _, _, d, rfl, he, X.a, (fun u r => by cases r; exact X.q3), false, rfl, iteF ⟨_, rfl, a, _, _, _, d, rfl, he, X.a, (fun u r => by cases r; exact X.q4), false, rfl, iteF kk⟩⟩
  refine ⟨fun a => tSeq (tAsg (tCallH (spCls K mg c a) (tCons (tVar 6) tNil)) (gName 3)) τ2, fun q a => pss_cons (ps_set (i := 3) sc__law_told.nd rfl (Or.inl rfl) (pe_callH (x := a) K_cls.ok rfl ((q.hr.h _).mono (by omega)) rfl K_cls.mgx K_cls.kp K_cls.bd (pa_cons (pv (x := "_law_e") 6) pa_nil))) (pss_one (h2 q a)), fun E σ G0 H0 G H a r hσ hw kk => ?_⟩
  obtain ⟨fp, r⟩ := r
  have ln : σ.length = 7 := by rw [← r.own.len]; rfl
  obtain ⟨s0, s1, s2, s3, s4, s5, s6, rfl⟩ : ∃ s0 s1 s2 s3 s4 s5 s6, σ = [s0, s1, s2, s3, s4, s5, s6] := by
    match σ, ln with
    | [s0, s1, s2, s3, s4, s5, s6], _ => exact ⟨s0, s1, s2, s3, s4, s5, s6, rfl⟩
  have e6 : s6 = some (.ref a) := Option.some.inj hσ
  subst e6
  have e4 : s4 = some .non := by
    obtain ⟨v, z, hv⟩ := r.own.rpd 4 dn rfl
    cases z
    rw [hvi hv]
  subst e4
  have X := exc08 U ω
  obtain ⟨d, he⟩ := at08 hw
  have nm : ω ≠ .made := fun z => by subst z; exact hw
  refine ⟨_, rfl, nameOf c ω, d, ansOf ω, rfl, he, X, fun l H1 sm hl hl1 => ?_⟩
  rw [cls_ix nm] at hl1
  show τ2 E [s0, s1, s2, some (.ref l), some .non, s5, some (.ref a)] H1
  have hw1 : wOf c ω H1 a := by
    cases ω with
    | made => exact hw
    | great => exact sm _ _ hw
    | asker => exact sm _ _ hw
    | number => exact sm _ _ hw
    | thing j => obtain ⟨dx, h1, h2⟩ := hw; exact ⟨dx, sm _ _ h1, sm _ _ h2⟩
    | twice j => obtain ⟨dx, h1, h2⟩ := hw; exact ⟨dx, sm _ _ h1, sm _ _ h2⟩
  refine m2 E s0 s1 s2 _ s5 H1 a hw1 ?_
  obtain ⟨fp2, r2⟩ := r.set (j := 3) (t := tInts (clsF ω)) (v := .ref l) (fq := [l]) (by show 3 < 7; decide) ⟨Same.refl _, sm, r.st.s.trans sm, fun a h h' => absurd h h'⟩ ⟨l, _, [], rfl, hl1, ints_owl' _, rfl⟩ ⟨fun x hx => by rw [List.mem_singleton.mp hx]; exact hl, fun x hx => by rw [List.mem_singleton.mp hx]; exact r.st.s.free hl, List.nodup_cons.mpr ⟨(fun z => nomatch z), .nil⟩⟩
  exact kk _ G _ (r2.set (j := 4) (t := .fz (.fl (fldV ω))) (v := fldV ω) (fq := []) (by show 4 < 7; decide) ⟨Same.refl _, Same.refl _, r2.st.s, fun a h h' => absurd h h'⟩ ⟨rfl, rfl, by cases ω <;> rfl⟩ ⟨fun _ z => (nomatch z), fun _ z => (nomatch z), .nil⟩)
def whyT (cs : List Int) (os : List (List Int)) (n : Int) (o : List Int) : Why := if n < 0 ∨ (os.length : Int) ≤ n then .asker else whyF cs (os.set n.toNat o)
def tldT (cs : List Int) (os : List (List Int)) (n : Int) (o : List Int) : Why → Tr
  | .made => .tp [.tp [tInts cs, tRows (os.set n.toNat o)], tInts [], tn]
  | ω => .tp [tn, tInts (clsF ω), .fz (.fl (fldV ω))]
def rTL (dd : List Dv) (t : Tr) : Prop := ∃ (cs : List Int) (os : List (List Int)) (n : Int) (o : List Int), Sz08 cs os ∧ o.length ≤ 100 ∧ dd = [dTab cs os, di n, dis o] ∧ t = tldT cs os n o (whyT cs os n o)
theorem ok__law_told {f f1 f2 ft fw : Addr} {fd fd1 fd2 : FuncData} {k : Nat} {c : Cs08} (F : Fun K "_law_told" "_law_told" s__law_told f fd) (T : Txt mg) (U : Txt08 K mg c ft fw) (K_told_otherwise : Kn P w K mg base CX0 (k + 3) "told_otherwise" f1 fd1 ["table", "asker", "order"] (spT K rTO)) (K_told_otherwiseX : Kn P w K mg base (CXD P w) (k + 5) "told_otherwise" f1 fd1 ["table", "asker", "order"] (spXG K (rTOX c))) (K_cls : KnH P w K mg base 1 "_law_classes" f2 fd2 ["_law_e"] (spCls K mg c)) : FnOk P w K mg base CX0 (k + 6) f fd ["_law_table_here", "_law_asker", "_law_order_here"] (spT K rTL) := by
  refine fn_ok F.d sc__law_told (fun dd t h => by obtain ⟨_, _, _, _, _, _, rfl, _⟩ := h; rfl) fun dd t h => ?_
  obtain ⟨cs, os, n, o, sz, ho, rfl, rfl⟩ := h
  refine ⟨_, .inl rfl, ?_⟩
  refine rns_cons (rn_set 3 (Ev.s (ev_lst eva_nil (Nat.zero_le _))) (fun _ => sc__law_told.nd)) ?_
  refine rns_cons (rn_set 4 (Ev.s ev_non) (fun _ => sc__law_told.nd)) ?_
  refine rns_cons (rn_set 5 (Ev.s ev_non) (fun _ => sc__law_told.nd)) ?_
  show Rns _ _ [some (.fz (dTab cs os)), some (ti n), some (.fz (dis o)), some (.ow []), some tn, some tn, none] _
  generalize hω : whyT cs os n o = ω
  cases hx : xiOf c ω with
  | none =>
    have hm : ω = .made := by
      cases ω with
      | made => rfl
      | _ => cases hx
    subst hm
    unfold whyT at hω
    split at hω
    · cases hω
    rename_i hn
    refine rns_cons (ρ1 := [some (.fz (dTab cs os)), some (ti n), some (.fz (dis o)), some (.ow []), some tn, some (.tp [tInts cs, tRows (os.set n.toNat o)]), none]) (rn_try_ok U.cat 6 (rns_one (rn_set 5 (Ev.s (ev_call K_told_otherwise (by show k + 3 ≤ k + 5; omega) (eva_cons (ev_nm 0 rfl) (eva_cons (ev_nm 1 rfl) (eva_cons (ev_nm 2 rfl) eva_nil))) ⟨cs, os, n, o, ⟨sz, ho, by omega, by omega⟩, hω, rfl, rfl⟩)) (fun _ => sc__law_told.nd))) (fun _ => sc__law_told.nd)) ?_
    exact rns_one (rn_ret3 5 3 4 (by decide) rfl rfl rfl (fun i => ps_ret (pe_tup (pa_cons (pv 5) (pa_cons (pv 3) (pa_cons (pv 4) pa_nil))))))
  | some Ξ =>
    obtain ⟨th, hth, hs⟩ := suite46 (f := f) (k := k + 4) T U K_cls (.fz (dTab cs os)) (ti n) (.fz (dis o)) ω
    have hR : rTOX c [dTab cs os, di n, dis o] Ξ := by
      refine ⟨cs, os, n, o, rfl, ?_⟩
      unfold whyT at hω
      split at hω
      · rename_i hn
        subst hω
        cases hx
        exact .inl ⟨hn, rfl⟩
      · rename_i hn
        exact .inr ⟨⟨sz, ho, by omega, by omega⟩, by rw [hω]; exact hx⟩
    refine rns_cons (rn_tryGA (j := 5) (C := nameOf c ω) (W := wOf c ω) (Ξ := Ξ) (th := th) (ρ' := [some (.fz (dTab cs os)), some (ti n), some (.fz (dis o)), some (tInts (clsF ω)), some (.fz (.fl (fldV ω))), some tn, none]) U.cat 6 K_told_otherwiseX (Nat.le_refl _) (eva_cons (ev_nm 0 rfl) (eva_cons (ev_nm 1 rfl) (eva_cons (ev_nm 2 rfl) eva_nil))) hR (lands08 hx) (exc08 U ω).s rfl rfl hth hs (fun _ => sc__law_told.nd)) ?_
    have et : tldT cs os n o ω = .tp [tn, tInts (clsF ω), .fz (.fl (fldV ω))] := by
      cases ω with
      | made => cases hx
      | _ => rfl
    rw [et]
    exact rns_one (rn_ret3 5 3 4 (by decide) rfl rfl rfl (fun i => ps_ret (pe_tup (pa_cons (pv 5) (pa_cons (pv 3) (pa_cons (pv 4) pa_nil))))))
end
end K46
namespace K46
open PySem L2
section
variable {P : Program} {w : World} {K : PySem.W.Frag} {mg : Str → Option Value} {base : Heap}
def numsF (n : Nat) : List Int := (List.range n).map fun i => 0 + ((i : Nat) : Int)
theorem mem_nums {n : Nat} {x : Int} : x ∈ numsF n ↔ 0 ≤ x ∧ x < n := by
  unfold numsF
  constructor
  · intro h
    obtain ⟨i, hi, rfl⟩ := List.mem_map.mp h
    have := List.mem_range.mp hi
    omega
  · rintro ⟨h0, h1⟩
    exact List.mem_map.mpr ⟨x.toNat, List.mem_range.mpr (by omega), by omega⟩
theorem nums_nodup (n : Nat) : (numsF n).Nodup := by
  unfold numsF
  rw [List.nodup_iff_pairwise_ne, List.pairwise_map]
  exact (List.nodup_range (n := n)).imp fun h z => h (by omega)
abbrev s__law_cell_at : Stmt := top 24
theorem sc__law_cell_at : FnScope ["_law_script", "_law_k"] ["_law_script", "_law_k"] (defScope s__law_cell_at) := ⟨rfl, rfl, rfl, by decide +kernel, rfl, by decide +kernel, by decide +kernel⟩
def rCell (dd : List Dv) (t : Tr) : Prop := ∃ (ns : List Int) (k : Int), 0 ≤ k ∧ dd = [dis ns, di k] ∧ t = ti (cellF ns k)
theorem ok__law_cell_at {f : Addr} {fd : FuncData} {k : Nat} (F : Fun K "_law_cell_at" "_law_cell_at" s__law_cell_at f fd) (T : Txt mg) : FnOk P w K mg base CX0 (k + 1) f fd ["_law_script", "_law_k"] (spT K rCell) := by
  refine fn_ok F.d sc__law_cell_at (fun dd t h => by obtain ⟨_, _, _, rfl, _⟩ := h; rfl) fun dd t h => ?_
  obtain ⟨ns, j, hj, rfl, rfl⟩ := h
  refine ⟨_, .inl rfl, ?_⟩
  by_cases hl : j < ns.length
  · refine rns_ret (rn_ifT (Et.s (et_lt (ev_nm 1 rfl) (ev_len T.b_len (ev_nm 0 rfl) (.inl rfl)))) ?_ (rns_one (rn_ret (Ev.s (ev_ix (ev_nm 0 rfl) (ev_nm 1 rfl) rfl ?_)))))
    · rw [List.length_map]; exact decide_eq_true hl
    · exact cell_in hj hl
  · refine rns_cons (rn_skip (Et.s (et_lt (ev_nm 1 rfl) (ev_len T.b_len (ev_nm 0 rfl) (.inl rfl)))) ?_) ?_
    · rw [List.length_map]; exact decide_eq_false hl
    · rw [cell_out hj (by omega)]
      exact rns_one (rn_ret (Ev.s ev_int))
def popK (cell : Int) (left : List Int) : Nat → Int × List Int × List Int
  | 0 => (cell, left, [])
  | k + 1 => ((popK cell left k).1 / (popK cell left k).2.1.length, (popK cell left k).2.1.eraseIdx ((popK cell left k).1 % (popK cell left k).2.1.length).toNat, (popK cell left k).2.2 ++ [(((popK cell left k).2.1)[((popK cell left k).1 % (popK cell left k).2.1.length).toNat]?).getD 0])
theorem popK_perm (cell : Int) (left : List Int) : ∀ k, k ≤ left.length → ((popK cell left k).2.2 ++ (popK cell left k).2.1).Perm left ∧ (popK cell left k).2.1.length = left.length - k ∧ (popK cell left k).2.2.length = k
  | 0, _ => ⟨.refl _, by simp [popK], rfl⟩
  | k + 1, hk => by
    obtain ⟨h1, h2, h3⟩ := popK_perm cell left k (by omega)
    generalize hs : popK cell left k = s at *
    obtain ⟨c, l, o⟩ := s
    have e : popK cell left (k + 1) = (c / l.length, l.eraseIdx (c % l.length).toNat, o ++ [(l[(c % l.length).toNat]?).getD 0]) := by
      show ((popK cell left k).1 / _, _, _) = _
      rw [hs]
    rw [e]
    have hl : 0 < l.length := by have : l.length = left.length - k := h2; omega
    have m0 := Int.emod_nonneg c (show (l.length : Int) ≠ 0 by omega)
    have m1 := Int.emod_lt_of_pos c (show 0 < (l.length : Int) by omega)
    generalize hm : (c % l.length).toNat = m at *
    have hml : m < l.length := by omega
    refine ⟨?_, ?_, by rw [List.length_append]; have : o.length = k := h3; simp [this]⟩
    · show (o ++ [(l[m]?).getD 0] ++ l.eraseIdx m).Perm left
      rw [List.getElem?_eq_getElem hml, Option.getD_some, List.append_assoc]
      exact (List.Perm.append_left o (erase_perm hml)).trans h1
    · show (l.eraseIdx m).length = _
      rw [List.length_eraseIdx_of_lt hml]
      have : l.length = left.length - k := h2
      omega
def sizeF (cell : Int) (n : Nat) : Nat := if cell % 2 = 0 then n else (cell / 2 % (n + 1)).toNat
def orderF (cell : Int) (n : Nat) : List Int := (popK (cell / (2 * n + 2)) (numsF n) (sizeF cell n)).2.2
theorem size_le (cell : Int) (n : Nat) : sizeF cell n ≤ n := by
  unfold sizeF
  split
  · exact Nat.le_refl _
  · have := Int.emod_lt_of_pos (cell / 2) (show 0 < (n : Int) + 1 by omega)
    omega
theorem nums_len (n : Nat) : (numsF n).length = n := by unfold numsF; rw [List.length_map, List.length_range]
theorem order_ok (cell : Int) (n : Nat) : (orderF cell n).Nodup ∧ ∀ x ∈ orderF cell n, 0 ≤ x ∧ x < n := by
  obtain ⟨h, _⟩ := popK_perm (cell / (2 * n + 2)) (numsF n) (sizeF cell n) (by rw [nums_len]; exact size_le cell n)
  refine ⟨(List.nodup_append.mp (h.nodup_iff.mpr (nums_nodup n))).1, fun x hx => mem_nums.mp (h.mem_iff.mp (List.mem_append_left _ hx))⟩
abbrev s__law_order : Stmt := top 25
theorem sc__law_order : FnScope ["_law_cell", "_law_many", "_law_size", "_law_left", "_law_order_here", "_law_k", "_law_at"] ["_law_cell", "_law_many"] (defScope s__law_order) := ⟨rfl, rfl, rfl, by decide +kernel, rfl, by decide +kernel, by decide +kernel⟩
def rOrder (dd : List Dv) (t : Tr) : Prop := ∃ (cell : Int) (n : Nat), n ≤ 6 ∧ dd = [di cell, di n] ∧ t = tInts (orderF cell n)
theorem ok__law_order {f : Addr} {fd : FuncData} {k : Nat} (F : Fun K "_law_order" "_law_order" s__law_order f fd) (T : Txt mg) : FnOk P w K mg base CX0 (k + 1) f fd ["_law_cell", "_law_many"] (spT K rOrder) := by
  refine fn_ok F.d sc__law_order (fun dd t h => by obtain ⟨_, _, _, rfl, _⟩ := h; rfl) fun dd t h => ?_
  obtain ⟨cell, n, hn, rfl, rfl⟩ := h
  refine ⟨_, .inl rfl, ?_⟩
  have big : 1000 < sizeLine := by decide
  have hsz := size_le cell n
  refine rns_cons (rn_set 2 (Ev.s (ev_ix (d := di (sizeF cell n)) (ev_lst (eva_cons (ev_nm 1 rfl) (eva_cons (ev_mod (ev_div (ev_nm 0 rfl) ev_int ⟨by decide, small_lt (by decide) (by decide)⟩) (ev_add (ev_nm 1 rfl) ev_int) (by omega)) eva_nil)) (by show 2 ≤ sizeLine; decide)) (ev_mod (ev_nm 0 rfl) ev_int (by decide)) rfl ?_)) (fun _ => sc__law_order.nd)) ?_
  · show atI [di (n : Int), di (cell / 2 % ((n : Int) + 1))] (cell % 2) = _
    have h0 := Int.emod_nonneg cell (show (2 : Int) ≠ 0 by decide)
    have h2 := Int.emod_lt_of_pos cell (show (0 : Int) < 2 by decide)
    unfold sizeF
    have : cell % 2 = 0 ∨ cell % 2 = 1 := by omega
    rcases this with h | h
    · rw [h, if_pos rfl]; rfl
    · rw [h, if_neg (by decide)]
      have m0 := Int.emod_nonneg (cell / 2) (show (n : Int) + 1 ≠ 0 by omega)
      rw [show (((cell / 2 % ((n : Int) + 1)).toNat : Nat) : Int) = cell / 2 % ((n : Int) + 1) by omega]
      rfl
  refine rns_cons (rn_set 0 (Ev.s (ev_div (ev_nm 0 rfl) (ev_add (ev_mul ev_int (ev_nm 1 rfl) ⟨small_lt (by decide) (by decide), small_lt (by omega) (by omega)⟩) ev_int) ⟨by omega, small_lt (by omega) (by omega)⟩)) (fun _ => sc__law_order.nd)) ?_
  refine rns_cons (rn_set 3 (Ev.s (ev_listrange T.b_list T.b_range (ev_nm 1 rfl) (by omega) (by omega))) (fun _ => sc__law_order.nd)) ?_
  refine rns_cons (rn_set 4 (Ev.s (ev_lst eva_nil (Nat.zero_le _))) (fun _ => sc__law_order.nd)) ?_
  refine rns_cons (rn_for (EvI.s (evi_range1 T.b_range (ev_nm 2 rfl) ⟨by omega, by omega⟩)) (evg_nm 5 (fun _ => sc__law_order.nd)) (fun k => [some (ti (popK (cell / (2 * n + 2)) (numsF n) k).1), some (ti n), some (ti (sizeF cell n)), some (tInts (popK (cell / (2 * n + 2)) (numsF n) k).2.1), some (tInts (popK (cell / (2 * n + 2)) (numsF n) k).2.2), none, none]) rfl (fun _ => rfl) (fun j d hd => ?_)) ?_
  · obtain ⟨hj, rfl⟩ := rng_get hd
    have hj' : j < sizeF cell n := by omega
    obtain ⟨p1, p2, p3⟩ := popK_perm (cell / (2 * n + 2)) (numsF n) j (by rw [nums_len]; omega)
    rw [nums_len] at p2
    have e : popK (cell / (2 * n + 2)) (numsF n) (j + 1) = ((popK (cell / (2 * n + 2)) (numsF n) j).1 / (popK (cell / (2 * n + 2)) (numsF n) j).2.1.length, (popK (cell / (2 * n + 2)) (numsF n) j).2.1.eraseIdx ((popK (cell / (2 * n + 2)) (numsF n) j).1 % (popK (cell / (2 * n + 2)) (numsF n) j).2.1.length).toNat, (popK (cell / (2 * n + 2)) (numsF n) j).2.2 ++ [(((popK (cell / (2 * n + 2)) (numsF n) j).2.1)[((popK (cell / (2 * n + 2)) (numsF n) j).1 % (popK (cell / (2 * n + 2)) (numsF n) j).2.1.length).toNat]?).getD 0]) := rfl
    rw [e]
    generalize popK (cell / (2 * n + 2)) (numsF n) j = s at p1 p2 p3
    obtain ⟨c, l, o⟩ := s
    simp only at p1 p2 p3 ⊢
    have hl : 0 < (l.length : Int) := by omega
    have hl6 : (l.length : Int) ≤ 6 := by omega
    have m0 := Int.emod_nonneg c (show (l.length : Int) ≠ 0 by omega)
    have m1 := Int.emod_lt_of_pos c hl
    have el : (ers (l.map fun n => Tr.fz (di n))).length = l.length := by rw [ers_map, List.length_map, List.length_map]
    have hlm : (((l.map fun n => Tr.fz (di n)).length : Nat) : Int) = l.length := by rw [List.length_map]
    refine ⟨_, _, rfl, rns_cons (rn_set 6 (EvS.to (t' := ti (c % l.length)) (Ev.pk (ev_mod (ev_nm 0 rfl) (ev_len T.b_len (ev_nm 3 rfl) (.inl rfl)) (by rw [el]; exact hl)) True.intro) (by rw [el])) (fun _ => sc__law_order.nd))
      (rns_cons (rn_set 0 (EvS.to (t' := ti (c / l.length)) (Ev.pk (ev_div (ev_nm 0 rfl) (ev_len T.b_len (ev_nm 3 rfl) (.inl rfl)) (by rw [el]; exact ⟨hl, small_lt (by omega) (by omega)⟩)) True.intro) (by rw [el])) (fun _ => sc__law_order.nd))
      (rns_one (rn_append_pop 4 3 (d := di ((l[(c % l.length).toNat]?).getD 0)) (n := c % l.length) (m := (c % l.length).toNat) (by decide) rfl rfl (Ev.s (ev_nm 6 rfl)) ?_ ⟨by omega, by omega⟩ ?_ ?_))), [5, 6], ?_⟩
    · rw [List.length_map]
      unfold ixN
      rw [if_pos m0, if_pos m1]
    · rw [List.getElem?_map, List.getElem?_eq_getElem (show (c % l.length).toNat < l.length by omega)]
      rfl
    · rw [List.length_map]; omega
    · show [_, _, _, some (Tr.ow (List.eraseIdx _ _)), some (Tr.ow (_ ++ [_])), _, _] = [_, _, _, some (Tr.ow _), some (Tr.ow _), _, _]
      rw [List.map_append, erase_map]
      rfl
  · rw [List.length_map, List.length_range]
    show Rns _ _ [_, _, _, _, some (tInts (popK (cell / (2 * n + 2)) (numsF n) (sizeF cell n)).2.2), _, _] _
    exact rns_one (rn_retO 4 rfl)
def cellsF (ns : List Int) (st : Int) : List Int := (List.range 13).map fun k => cellF ns (st + (0 + ((k : Nat) : Int)))
theorem cells_get (ns : List Int) (st : Int) {k : Nat} (hk : k < 13) : (cellsF ns st)[k]? = some (cellF ns (st + (0 + ((k : Nat) : Int)))) := by
  unfold cellsF
  rw [List.getElem?_map, List.getElem?_range hk]; rfl
def cntF (c : Int) : Int := if c / 10 % 2 = 0 then c % 4 else c % 10
def manyT (ns : List Int) (st : Int) : Nat := (cellF ns (st + (0 + ((0 : Nat) : Int))) % 7).toNat
def countsT (ns : List Int) (st : Int) : List Int := (cutD (cellsF ns st) (some 1) (some (1 + (manyT ns st : Int)))).map cntF
def nOrd (ns : List Int) (st most : Int) : Nat := (1 + cellF ns (st + (0 + ((0 : Nat) : Int))) / 7 % most).toNat
def cellT (ns : List Int) (st : Int) (k : Nat) : Int := if cellF ns (st + (0 + ((0 : Nat) : Int))) / 42 % 3 = 0 ∧ 1 < cellF ns (st + (0 + ((7 + k : Nat) : Int))) % 5 then cellF ns (st + (0 + ((7 : Nat) : Int))) else cellF ns (st + (0 + ((7 + k : Nat) : Int)))
def ordersT (ns : List Int) (st most : Int) : List (List Int) := (List.range (nOrd ns st most)).map fun k => orderF (cellT ns st k) (manyT ns st)
theorem manyT_le (ns : List Int) (st : Int) : manyT ns st ≤ 6 := by
  unfold manyT
  have := Int.emod_lt_of_pos (cellF ns (st + (0 + ((0 : Nat) : Int)))) (show (0 : Int) < 7 by decide)
  omega
theorem manyT_int (ns : List Int) (st : Int) : cellF ns (st + (0 + ((0 : Nat) : Int))) % 7 = (manyT ns st : Int) := by
  unfold manyT
  have := Int.emod_nonneg (cellF ns (st + (0 + ((0 : Nat) : Int)))) (show (7 : Int) ≠ 0 by decide)
  omega
theorem nOrd_le {ns : List Int} {st most : Int} (h1 : 1 ≤ most) (h6 : most ≤ 6) : 1 ≤ nOrd ns st most ∧ nOrd ns st most ≤ 6 ∧ (1 + cellF ns (st + (0 + ((0 : Nat) : Int))) / 7 % most = (nOrd ns st most : Int)) := by
  unfold nOrd
  have a := Int.emod_nonneg (cellF ns (st + (0 + ((0 : Nat) : Int))) / 7) (show most ≠ 0 by omega)
  have b := Int.emod_lt_of_pos (cellF ns (st + (0 + ((0 : Nat) : Int))) / 7) (show 0 < most by omega)
  omega
theorem cutD_nat {α : Type} (l : List α) (a b : Nat) : cutD l (some (a : Int)) (some (b : Int)) = (l.drop (min a l.length)).take (min b l.length - min a l.length) := by
  unfold cutD
  rw [HT.sIx_nat, HT.sIx_nat]
theorem counts_len (ns : List Int) (st : Int) : (countsT ns st).length = manyT ns st := by
  unfold countsT
  have := manyT_le ns st
  have e : cutD (cellsF ns st) (some 1) (some (1 + (manyT ns st : Int))) = cutD (cellsF ns st) (some ((1 : Nat) : Int)) (some ((1 + manyT ns st : Nat) : Int)) := by
    congr 2
  rw [List.length_map, e, cutD_nat, List.length_take, List.length_drop]
  have : (cellsF ns st).length = 13 := by unfold cellsF; rw [List.length_map, List.length_range]
  omega
theorem cntF_ok (c : Int) : 0 ≤ cntF c ∧ cntF c ≤ 9 := by
  unfold cntF
  have := Int.emod_nonneg c (show (4 : Int) ≠ 0 by decide)
  have := Int.emod_lt_of_pos c (show (0 : Int) < 4 by decide)
  have := Int.emod_nonneg c (show (10 : Int) ≠ 0 by decide)
  have := Int.emod_lt_of_pos c (show (0 : Int) < 10 by decide)
  split <;> omega
theorem tab_ok {ns : List Int} {st most : Int} (h1 : 1 ≤ most) (h6 : most ≤ 6) : TabOk (countsT ns st) (ordersT ns st most) := by
  obtain ⟨n1, n2, _⟩ := nOrd_le (ns := ns) (st := st) h1 h6
  refine ⟨by rw [counts_len]; exact manyT_le ns st, fun x hx => ?_, ?_, ?_, fun o ho => ?_, fun o ho x hx => ?_⟩
  · obtain ⟨c, _, rfl⟩ := List.mem_map.mp hx
    exact cntF_ok c
  · unfold ordersT; rw [List.length_map, List.length_range]; exact n1
  · unfold ordersT; rw [List.length_map, List.length_range]; exact n2
  · obtain ⟨k, _, rfl⟩ := List.mem_map.mp ho
    exact (order_ok _ _).1
  · obtain ⟨k, _, rfl⟩ := List.mem_map.mp ho
    rw [counts_len]
    exact (order_ok _ _).2 x hx
abbrev s__law_table : Stmt := top 26
theorem sc__law_table : FnScope ["_law_script", "_law_start", "_law_things", "_law_askers", "_law_cells", "_law_many", "_law_counts", "_law_orders", "_law_k", "_law_cell"] ["_law_script", "_law_start", "_law_things", "_law_askers"] (defScope s__law_table) := ⟨rfl, rfl, rfl, by decide +kernel, rfl, by decide +kernel, by decide +kernel⟩
def rTable (dd : List Dv) (t : Tr) : Prop := ∃ (ns : List Int) (st most : Int), 0 ≤ st ∧ 1 ≤ most ∧ most ≤ 6 ∧ dd = [dis ns, di st, di 6, di most] ∧ t = .tp [tInts (countsT ns st), tRows (ordersT ns st most)]
theorem ok__law_table {f f1 f2 : Addr} {fd fd1 fd2 : FuncData} {k : Nat} (F : Fun K "_law_table" "_law_table" s__law_table f fd) (T : Txt mg) (K__law_cell_at : Kn P w K mg base CX0 (k + 1) "_law_cell_at" f1 fd1 ["_law_script", "_law_k"] (spT K rCell)) (K__law_order : Kn P w K mg base CX0 (k + 1) "_law_order" f2 fd2 ["_law_cell", "_law_many"] (spT K rOrder)) : FnOk P w K mg base CX0 (k + 2) f fd ["_law_script", "_law_start", "_law_things", "_law_askers"] (spT K rTable) := by
  refine fn_ok F.d sc__law_table (fun dd t h => by obtain ⟨_, _, _, _, _, _, rfl, _⟩ := h; rfl) fun dd t h => ?_
  obtain ⟨ns, st, most, hst, h1, h6, rfl, rfl⟩ := h
  refine ⟨_, .inl rfl, ?_⟩
  have big : 1000 < sizeLine := by decide
  have hM := manyT_le ns st
  obtain ⟨n1, n2, n3⟩ := nOrd_le (ns := ns) (st := st) h1 h6
  have cget : ∀ k : Nat, k < 13 → atI ((cellsF ns st).map di) ((k : Nat) : Int) = some (di (cellF ns (st + (0 + ((k : Nat) : Int))))) := fun k hk => atI_nat (by rw [List.getElem?_map, cells_get ns st hk]; rfl)
  have clen : (cellsF ns st).length = 13 := by unfold cellsF; rw [List.length_map, List.length_range]
  refine rns_cons (ρ1 := [some (.fz (dis ns)), some (ti st), some (ti 6), some (ti most), some (.fz (dis (cellsF ns st))), none, none, none, none, none]) (rn_lcG 4 (ElcS (Elc.as (d := dis (cellsF ns st)) (elc (own := ["_law_k"]) (fr := [0, 1]) (evi_range1 T.b_range ev_int ⟨by decide, by decide⟩) (evg_nm 0 (fun _ => by show List.Nodup (["_law_k", "_law_script", "_law_start"] : List Str); decide)) (by decide) (fun k => true) (fun k => ti (cellF ns (st + (0 + ((k : Nat) : Int))))) (by rw [List.length_map, List.length_range]; show 13 < sizeLine; decide) (fun k d hd => by
      obtain ⟨hk, rfl⟩ := rng_get hd
      exact ⟨_, rfl, el_nil, fun _ => ev_call K__law_cell_at (Nat.le_refl _) (eva_cons (ev_nm 1 rfl) (eva_cons (ev_add (ev_nm 2 rfl) (ev_nm 0 rfl)) eva_nil)) ⟨ns, _, by omega, rfl, rfl⟩⟩) (fun dd => by cases dd <;> rfl)) (by rw [List.filter_eq_self.mpr (fun _ _ => rfl), er_map]; rfl))) (fun i => lcs ⟨rfl, rfl, by decide +kernel, by decide +kernel, by decide +kernel, by decide +kernel⟩) (fun _ => sc__law_table.nd)) ?_
  refine rns_cons (rn_set 5 (EvS.to (t' := ti (manyT ns st)) (Ev.s (ev_mod (ev_ix (d := di (cellF ns (st + (0 + ((0 : Nat) : Int))))) (ev_nm 4 rfl) ev_int rfl (cget 0 (by decide))) (ev_add (ev_nm 2 rfl) ev_int) (by decide))) (by show ti (cellF ns (st + (0 + ((0 : Nat) : Int))) % 7) = _; rw [manyT_int])) (fun _ => sc__law_table.nd)) ?_
  refine rns_cons (rn_lcG 6 (ElcS (elcm (own := ["_law_cell"]) (fr := []) (cutD (cellsF ns st) (some 1) (some (1 + (manyT ns st : Int)))) di (fun c => ti (cntF c)) (EvI.to (evi_list (ev_slice (ev_nm 4 rfl) rfl (eo_some ev_int) (eo_some (ev_add ev_int (ev_nm 5 rfl)))) (er_fzs _)) (cutD_map _ _ _ _)) (evg_nm 0 (fun _ => by show List.Nodup (["_law_cell"] : List Str); decide)) (by decide) ?_ (fun c hc => ?_) (fun dd => ?_))) (fun i => lcs ⟨rfl, rfl, by decide +kernel, by decide +kernel, by decide +kernel, by decide +kernel⟩) (fun _ => sc__law_table.nd)) ?_
  · have := cutD_len (cellsF ns st) (some 1) (some (1 + (manyT ns st : Int)))
    rw [clen] at this
    omega
  · refine ⟨_, rfl, ?_⟩
    refine ev_ix (d := di (cntF c)) (ev_lst (eva_cons (ev_mod (ev_nm 0 rfl) ev_int (by decide)) (eva_cons (ev_mod (ev_nm 0 rfl) ev_int (by decide)) eva_nil)) (by show 2 ≤ sizeLine; decide)) (ev_mod (ev_div (ev_nm 0 rfl) ev_int ⟨by decide, small_lt (by decide) (by decide)⟩) ev_int (by decide)) rfl ?_
    show atI [di (c % 4), di (c % 10)] (c / 10 % 2) = _
    have a := Int.emod_nonneg (c / 10) (show (2 : Int) ≠ 0 by decide)
    have b := Int.emod_lt_of_pos (c / 10) (show (0 : Int) < 2 by decide)
    unfold cntF
    have : c / 10 % 2 = 0 ∨ c / 10 % 2 = 1 := by omega
    rcases this with h | h <;> rw [h] <;> rfl
  · cases dd <;> rfl
  have ecs : Tr.ow ((cutD (cellsF ns st) (some 1) (some (1 + (manyT ns st : Int)))).map fun c => ti (cntF c)) = tInts (countsT ns st) := by
    show _ = Tr.ow _
    unfold countsT
    rw [List.map_map]; rfl
  rw [ecs]
  show Rns _ _ [some (.fz (dis ns)), some (ti st), some (ti 6), some (ti most), some (.fz (dis (cellsF ns st))), some (ti (manyT ns st)), some (tInts (countsT ns st)), none, none, none] _
  refine rns_cons (rn_set 7 (Ev.s (ev_lst eva_nil (Nat.zero_le _))) (fun _ => sc__law_table.nd)) ?_
  have cd7 : CDivB (cellF ns (st + (0 + ((0 : Nat) : Int)))) 7 := ⟨by decide, small_lt (by decide) (by decide)⟩
  have cd42 : CDivB (cellF ns (st + (0 + ((0 : Nat) : Int)))) 42 := ⟨by decide, small_lt (by decide) (by decide)⟩
  refine rns_cons (rn_for (its := rngD 0 (nOrd ns st most)) (EvI.s (EvI.to (evi_range1 T.b_range (ev_add ev_int (ev_mod (ev_div (ev_ix (d := di (cellF ns (st + (0 + ((0 : Nat) : Int))))) (ev_nm 4 rfl) ev_int rfl (cget 0 (by decide))) ev_int cd7) (ev_nm 3 rfl) (by omega))) ?_) ?_)) (evg_nm 8 (fun _ => sc__law_table.nd)) (fun k => [some (.fz (dis ns)), some (ti st), some (ti 6), some (ti most), some (.fz (dis (cellsF ns st))), some (ti (manyT ns st)), some (tInts (countsT ns st)), some (tRows ((ordersT ns st most).take k)), none, none]) rfl (fun _ => rfl) (fun j d hd => ?_)) ?_
  · rw [n3]; omega
  · rw [n3, Int.toNat_natCast]
  · obtain ⟨hj, rfl⟩ := rng_get hd
    have c7 : atI ((cellsF ns st).map di) (7 + (0 + (j : Int))) = some (di (cellF ns (st + (0 + ((7 + j : Nat) : Int))))) := by
      have := cget (7 + j) (by omega)
      rwa [show ((7 + j : Nat) : Int) = 7 + (0 + (j : Int)) by omega] at this ⊢
    have hord : (ordersT ns st most)[j]? = some (orderF (cellT ns st j) (manyT ns st)) := by
      unfold ordersT
      rw [List.getElem?_map, List.getElem?_range hj]; rfl
    have hlen : ((ordersT ns st most).take j).length < sizeLine := by
      rw [List.length_take]
      have : (ordersT ns st most).length = nOrd ns st most := by unfold ordersT; rw [List.length_map, List.length_range]
      omega
    have fin : tRows ((ordersT ns st most).take (j + 1)) = .ow (((ordersT ns st most).take j).map tInts ++ [tInts (orderF (cellT ns st j) (manyT ns st))]) := by
      rw [take_get hord]
      show Tr.ow _ = _
      rw [List.map_append]; rfl
    rw [fin]
    cases hf : decide (cellF ns (st + (0 + ((0 : Nat) : Int))) / 42 % 3 = 0) && decide (1 < cellF ns (st + (0 + ((7 + j : Nat) : Int))) % 5) with
    | true =>
      have ec : cellT ns st j = cellF ns (st + (0 + ((7 : Nat) : Int))) := by
        unfold cellT
        rw [Bool.and_eq_true, decide_eq_true_eq, decide_eq_true_eq] at hf
        rw [if_pos hf]
      refine ⟨_, _, rfl, rns_cons (rn_set 9 (Ev.s (ev_ix (ev_nm 4 rfl) (ev_add ev_int (ev_nm 8 rfl)) rfl c7)) (fun _ => sc__law_table.nd)) (rns_cons (rn_ifT (Et.s (Ew.et (ew_and (et_eq (ev_mod (ev_div (ev_ix (d := di (cellF ns (st + (0 + ((0 : Nat) : Int))))) (ev_nm 4 rfl) ev_int rfl (cget 0 (by decide))) ev_int cd42) ev_int (by decide)) ev_int) fun _ => (ew_and1 (et_gt (ev_mod (ev_nm 9 rfl) ev_int (by decide)) ev_int))))) hf (rns_one (rn_set 9 (Ev.s (ev_ix (d := di (cellF ns (st + (0 + ((7 : Nat) : Int))))) (ev_nm 4 rfl) ev_int rfl (cget 7 (by decide)))) (fun _ => sc__law_table.nd))))
        (rns_one (rn_append 7 rfl (Ev.s (ev_call K__law_order (Nat.le_refl _) (eva_cons (ev_nm 9 rfl) (eva_cons (ev_nm 5 rfl) eva_nil)) ⟨_, manyT ns st, hM, rfl, rfl⟩)) (by rw [List.length_map]; exact hlen)))), [8, 9], ?_⟩
      rw [ec]; rfl
    | false =>
      have ec : cellT ns st j = cellF ns (st + (0 + ((7 + j : Nat) : Int))) := by
        unfold cellT
        rw [if_neg]
        intro z
        rw [decide_eq_true z.1, decide_eq_true z.2] at hf
        cases hf
      refine ⟨_, _, rfl, rns_cons (rn_set 9 (Ev.s (ev_ix (ev_nm 4 rfl) (ev_add ev_int (ev_nm 8 rfl)) rfl c7)) (fun _ => sc__law_table.nd)) (rns_cons (rn_skip (Et.s (Ew.et (ew_and (et_eq (ev_mod (ev_div (ev_ix (d := di (cellF ns (st + (0 + ((0 : Nat) : Int))))) (ev_nm 4 rfl) ev_int rfl (cget 0 (by decide))) ev_int cd42) ev_int (by decide)) ev_int) fun _ => (ew_and1 (et_gt (ev_mod (ev_nm 9 rfl) ev_int (by decide)) ev_int))))) hf)
        (rns_one (rn_append 7 rfl (Ev.s (ev_call K__law_order (Nat.le_refl _) (eva_cons (ev_nm 9 rfl) (eva_cons (ev_nm 5 rfl) eva_nil)) ⟨_, manyT ns st, hM, rfl, rfl⟩)) (by rw [List.length_map]; exact hlen)))), [8, 9], ?_⟩
      rw [ec]; rfl
  · have el : (rngD 0 (nOrd ns st most)).length = (ordersT ns st most).length := by unfold ordersT; simp
    rw [el, List.take_length]
    exact rns_one (rn_ret2 6 7 (by decide) rfl rfl (fun i => ps_ret (pe_tup (pa_cons (pv 6) (pa_cons (pv 7) pa_nil)))))
end
end K46
namespace K46
open PySem L2
section
variable {P : Program} {w : World} {K : PySem.W.Frag} {mg : Str → Option Value} {base : Heap}
theorem er_flt (l : List Int) (q : Int → Bool) : er (.ow ((l.filter q).map ti)) = .lst ((l.filter q).map di) := by
  rw [show ((l.filter q).map ti) = ((l.filter q).map di).map Tr.fz by rw [List.map_map]; rfl, er_fzs]
theorem dp_flt (l : List Int) (q : Int → Bool) : dpD (er (.ow ((l.filter q).map ti))) ≤ 50 := by
  rw [er_flt]
  exact Nat.le_trans (dpD_dis (l.filter q)) (by decide)
theorem ne_flt (l : List Int) (q : Int → Bool) : (!eqD (er (.ow ((l.filter q).map ti))) (er (.ow []))) = (l.map q).any id := by
  rw [er_flt]
  induction l with
  | nil => rfl
  | cons x xs ih =>
    rw [List.filter_cons, List.map_cons, List.any_cons]
    cases h : q x with
    | true => rfl
    | false => exact ih
theorem unl_le (ns : List Int) : unlike ns ≤ ns.length := by
  unfold unlike
  exact PyProof.Rows.firstMet_length_le _ _
theorem dup_lt (o : List Int) : decide (((unlike o : Nat) : Int) < (o.length : Nat)) = dupN o := by
  have := unl_le o
  unfold dupN
  by_cases h : unlike o = o.length
  · rw [h]; simp
  · rw [decide_eq_true (by omega), decide_eq_false (by omega)]; rfl
abbrev s__law_spoiled : Stmt := top 29
theorem sc__law_spoiled : FnScope ["_law_order_here", "_law_many", "_law_cell", "_law_far", "_law_at", "_law_odd", "_law_number"] ["_law_order_here", "_law_many", "_law_cell", "_law_far"] (defScope s__law_spoiled) := ⟨rfl, rfl, rfl, by decide +kernel, rfl, by decide +kernel, by decide +kernel⟩
def oddF (many cell far : Int) : Int := ([many, many + far, -1, -1 - far][(cell / 28 % 4).toNat]?).getD 0
def atF (o : List Int) (cell : Int) : Int := cell / 4 % ((o.length : Nat) + 1)
def putF (o : List Int) (cell x : Int) : List Int := cutD o none (some (atF o cell)) ++ [x] ++ cutD o (some (atF o cell)) none
def spoilF (o : List Int) (many cell far : Int) : List Int :=
  if (decide (cell % 4 = 1) && !eqD (dis o) (.lst [])) = true then putF o cell ((o[(cell / 112 % ((o.length : Nat) : Int)).toNat]?).getD 0)
  else if cell % 4 = 2 then putF o cell (oddF many cell far)
  else if cell % 4 = 3 then [oddF many cell far] ++ o ++ [oddF many cell far] else o
theorem put_len (o : List Int) (cell x : Int) : (putF o cell x).length ≤ 2 * o.length + 1 := by
  unfold putF
  rw [List.length_append, List.length_append]
  have := cutD_len o none (some (atF o cell))
  have := cutD_len o (some (atF o cell)) none
  show _ + 1 + _ ≤ _
  omega
theorem spoil_len (o : List Int) (many cell far : Int) : (spoilF o many cell far).length ≤ 2 * o.length + 2 := by
  unfold spoilF
  split
  · have := put_len o cell ((o[(cell / 112 % ((o.length : Nat) : Int)).toNat]?).getD 0); omega
  split
  · have := put_len o cell (oddF many cell far); omega
  split
  · rw [List.length_append, List.length_append]; show 1 + _ + 1 ≤ _; omega
  · omega
theorem odd_at (many cell far : Int) : atI [di many, di (many + far), di (-1), di (-1 - far)] (cell / 28 % 4) = some (di (oddF many cell far)) := by
  have a := Int.emod_nonneg (cell / 28) (show (4 : Int) ≠ 0 by decide)
  have b := Int.emod_lt_of_pos (cell / 28) (show (0 : Int) < 4 by decide)
  unfold oddF
  have : cell / 28 % 4 = 0 ∨ cell / 28 % 4 = 1 ∨ cell / 28 % 4 = 2 ∨ cell / 28 % 4 = 3 := by omega
  rcases this with h | h | h | h <;> rw [h] <;> rfl
def rSpoil (dd : List Dv) (t : Tr) : Prop := ∃ (o : List Int) (many cell far : Int), o.length ≤ 100 ∧ dd = [dis o, di many, di cell, di far] ∧ t = .fz (dis (spoilF o many cell far))
theorem ev_put {ι : Type} {F : Fam ι} {a b c a' c' : Expr} {ρ : En} {o : List Int} {cell x : Int} {p1 p2 p3 p4 p5 p6 p7 : Pos} (ho : o.length ≤ 100) (ha : Ev F a ρ (.fz (dis o))) (hc : Ev F c ρ (ti (atF o cell))) (hb : Ev F (.List [b] p5) ρ (.ow [ti x])) (ha' : Ev F a' ρ (.fz (dis o))) (hc' : Ev F c' ρ (ti (atF o cell))) : Ev F (.BinOp (.BinOp (.Subscript a (.Slice none (some c) none p1) p2) .Add (.List [b] p5) p3) .Add (.Subscript a' (.Slice (some c') none none p6) p7) p4) ρ (.fz (dis (putF o cell x))) := by
  have big : 1000 < sizeLine := by decide
  have l1 := cutD_len (o.map di) none (some (atF o cell))
  have l2 := cutD_len (o.map di) (some (atF o cell)) none
  rw [List.length_map] at l1 l2
  refine Ev.as (ev_cat (ev_cat (xs := cutD (o.map di) none (some (atF o cell))) (ys := [di x]) (ev_slice ha rfl eo_none (eo_some hc)) hb (er_fzs _) rfl (by show _ + 1 ≤ _; omega)) (ev_slice ha' rfl (eo_some hc') eo_none) (er_fzs _) (er_fzs _) (by rw [List.length_append]; show _ + 1 + _ ≤ _; omega)) ?_
  rw [er_fzs, cutD_map, cutD_map]
  unfold putF
  show Dv.lst _ = Dv.lst _
  rw [List.map_append, List.map_append]; rfl
theorem ok__law_spoiled {f : Addr} {fd : FuncData} {k : Nat} (F : Fun K "_law_spoiled" "_law_spoiled" s__law_spoiled f fd) (T : Txt mg) : FnOk P w K mg base CX0 (k + 1) f fd ["_law_order_here", "_law_many", "_law_cell", "_law_far"] (spT K rSpoil) := by
  refine fn_ok F.d sc__law_spoiled (fun dd t h => by obtain ⟨_, _, _, _, _, rfl, _⟩ := h; rfl) fun dd t h => ?_
  obtain ⟨o, many, cell, far, ho, rfl, rfl⟩ := h
  refine ⟨_, .inl rfl, ?_⟩
  have big : 1000 < sizeLine := by decide
  have c4 : CDivB cell 4 := ⟨by decide, small_lt (by decide) (by decide)⟩
  have c28 : CDivB cell 28 := ⟨by decide, small_lt (by decide) (by decide)⟩
  have c112 : CDivB cell 112 := ⟨by decide, small_lt (by decide) (by decide)⟩
  refine rns_cons (rn_set 4 (EvS.to (t' := ti (atF o cell)) (Ev.s (ev_mod (ev_div (ev_nm 2 rfl) ev_int c4) (ev_add (ev_len T.b_len (ev_nm 0 rfl) (.inl rfl)) ev_int) (by omega))) (by rw [List.length_map]; rfl)) (fun _ => sc__law_spoiled.nd)) ?_
  refine rns_cons (rn_set 5 (Ev.s (ev_ix (d := di (oddF many cell far)) (ev_lst (eva_cons (ev_nm 1 rfl) (eva_cons (ev_add (ev_nm 1 rfl) (ev_nm 3 rfl)) (eva_cons (ev_neg ev_int) (eva_cons (ev_sub (ev_neg ev_int) (ev_nm 3 rfl)) eva_nil)))) (by show 4 ≤ sizeLine; decide)) (ev_mod (ev_div (ev_nm 2 rfl) ev_int c28) ev_int (by decide)) rfl (odd_at many cell far))) (fun _ => sc__law_spoiled.nd)) ?_
  show Rns _ _ [some (.fz (dis o)), some (ti many), some (ti cell), some (ti far), some (ti (atF o cell)), some (ti (oddF many cell far)), none] _
  unfold spoilF
  refine rns_ifr (p := decide (cell % 4 = 1) && !eqD (dis o) (.lst [])) (Et.s (Ew.et (ew_and (et_eq (ev_mod (ev_nm 2 rfl) ev_int (by decide)) ev_int) fun _ => (ew_and1 (et_neS (ev_nm 0 rfl) (ev_lst eva_nil (Nat.zero_le _)) (.inl ⟨_, _, rfl, rfl⟩) (Nat.le_trans (dpD_dis o) (by decide))))))) (fun h => ?_) (fun h => ?_)
  · rw [if_pos h]
    have h2 := (Bool.and_eq_true _ _).mp h |>.2
    have pos : 0 < o.length := by
      cases o with
      | nil => cases h2
      | cons a b => exact Nat.succ_pos _
    have m0 := Int.emod_nonneg (cell / 112) (show ((o.length : Nat) : Int) ≠ 0 by omega)
    have m1 := Int.emod_lt_of_pos (cell / 112) (show 0 < ((o.length : Nat) : Int) by omega)
    have hat : atI (o.map di) (cell / 112 % (((o.map di).length : Nat) : Int)) = some (di ((o[(cell / 112 % ((o.length : Nat) : Int)).toNat]?).getD 0)) := by
      rw [List.length_map]
      obtain ⟨j, ej⟩ : ∃ j : Nat, cell / 112 % ((o.length : Nat) : Int) = (j : Int) := ⟨(cell / 112 % ((o.length : Nat) : Int)).toNat, by omega⟩
      rw [ej] at m1 ⊢
      have hj : j < o.length := by omega
      rw [Int.toNat_natCast, List.getElem?_eq_getElem hj]
      exact atI_nat (by rw [List.getElem?_map, List.getElem?_eq_getElem hj]; rfl)
    refine rns_cons (rn_set 6 (Ev.s (ev_ix (ev_nm 0 rfl) (ev_mod (ev_div (ev_nm 2 rfl) ev_int c112) (ev_len T.b_len (ev_nm 0 rfl) (.inl rfl)) (by rw [List.length_map]; omega)) rfl hat)) (fun _ => sc__law_spoiled.nd)) ?_
    exact rns_one (rn_ret (Ev.s (ev_put ho (ev_nm 0 rfl) (ev_nm 4 rfl) (ev_lst (eva_cons (ev_nm 6 rfl) eva_nil) (by show 1 ≤ sizeLine; decide)) (ev_nm 0 rfl) (ev_nm 4 rfl))))
  rw [if_neg (by rw [h]; decide)]
  refine rns_ifr (Et.s (et_eq (ev_mod (ev_nm 2 rfl) ev_int (by decide)) ev_int)) (fun h => ?_) (fun h => ?_)
  · rw [if_pos (of_decide_eq_true h)]
    exact rns_one (rn_ret (Ev.s (ev_put ho (ev_nm 0 rfl) (ev_nm 4 rfl) (ev_lst (eva_cons (ev_nm 5 rfl) eva_nil) (by show 1 ≤ sizeLine; decide)) (ev_nm 0 rfl) (ev_nm 4 rfl))))
  rw [if_neg (of_decide_eq_false h)]
  refine rns_ifr (Et.s (et_eq (ev_mod (ev_nm 2 rfl) ev_int (by decide)) ev_int)) (fun h => ?_) (fun h => ?_)
  · rw [if_pos (of_decide_eq_true h)]
    refine rns_one (rn_ret (Ev.s (Ev.as (ev_cat (ev_cat (xs := [di (oddF many cell far)]) (ys := o.map di) (ev_lst (eva_cons (ev_nm 5 rfl) eva_nil) (by show 1 ≤ sizeLine; decide)) (ev_nm 0 rfl) rfl rfl (by show 1 + _ ≤ _; rw [List.length_map]; omega)) (ys := [di (oddF many cell far)]) (ev_lst (eva_cons (ev_nm 5 rfl) eva_nil) (by show 1 ≤ sizeLine; decide)) (er_fzs _) rfl (by rw [List.length_append, List.length_map]; show 1 + _ + 1 ≤ _; omega)) ?_)))
    rw [er_fzs]
    show Dv.lst _ = Dv.lst _
    rw [List.map_append, List.map_append]; rfl
  rw [if_neg (of_decide_eq_false h)]
  exact rns_one (rn_ret (Ev.s (ev_nm 0 rfl)))
abbrev s__law_due : Stmt := top 30
theorem sc__law_due : FnScope ["_law_order_here", "_law_many", "_law_asker"] ["_law_order_here", "_law_many", "_law_asker"] (defScope s__law_due) := ⟨rfl, rfl, rfl, by decide +kernel, rfl, by decide +kernel, by decide +kernel⟩
def dueW (o : List Int) (many : Int) (j : Nat) : Why := if badN many o = true then .thing j else if dupN o = true then .twice j else .made
def rDue (dd : List Dv) (t : Tr) : Prop := ∃ (o : List Int) (many : Int) (j : Nat), o.length ≤ 100 ∧ dd = [dis o, di many, di j] ∧ t = .fz (.tup [dis (clsF (dueW o many j)), .fl (fldV (dueW o many j))])
theorem ok__law_due {f : Addr} {fd : FuncData} {k : Nat} (F : Fun K "_law_due" "_law_due" s__law_due f fd) (T : Txt mg) : FnOk P w K mg base CX0 (k + 1) f fd ["_law_order_here", "_law_many", "_law_asker"] (spT K rDue) := by
  refine fn_ok F.d sc__law_due (fun dd t h => by obtain ⟨_, _, _, _, rfl, _⟩ := h; rfl) fun dd t h => ?_
  obtain ⟨o, many, j, ho, rfl, rfl⟩ := h
  refine ⟨_, .inl rfl, ?_⟩
  have big : 1000 < sizeLine := by decide
  have eb : badN many o = (o.map fun x => !(decide (0 ≤ x) && decide (x < many))).any id := by
    unfold badN
    congr 2
    funext x
    by_cases h1 : x < 0
    · rw [decide_eq_true h1, decide_eq_false (show ¬ 0 ≤ x by omega)]; rfl
    · rw [decide_eq_false h1, decide_eq_true (show 0 ≤ x by omega)]
      by_cases h2 : many ≤ x
      · rw [decide_eq_true h2, decide_eq_false (show ¬ x < many by omega)]; rfl
      · rw [decide_eq_false h2, decide_eq_true (show x < many by omega)]; rfl
  unfold dueW
  refine rns_ifr (p := badN many o) (EtS.to (Et.s (et_neS (ev_lcf (own := ["_law_number"]) (fr := [1]) o di (fun x => !(decide (0 ≤ x) && decide (x < many))) ti (fun i => lcs ⟨rfl, rfl, by decide +kernel, by decide +kernel, by decide +kernel, by decide +kernel⟩) (evi_list (ev_nm 0 rfl) rfl) (evg_nm 0 (fun _ => by show List.Nodup (["_law_number", "_law_many"] : List Str); decide)) (by decide) (by omega) (fun x hx => ⟨_, rfl, by exact el_one (et_not (et_chain_le_lt ev_int (ev_nm 0 rfl) (ev_nm 1 rfl))), fun _ => (ev_nm 0 rfl)⟩) (fun dd => by cases dd <;> rfl)) (ev_lst eva_nil (Nat.zero_le _)) (.inl ⟨_, _, er_flt _ _, rfl⟩) (dp_flt _ _))) (by rw [ne_flt, eb])) (fun h => ?_) (fun h => ?_)
  · rw [if_pos h]
    exact rns_one (rn_ret (Ev.s (ev_tupD (eva_cons (ev_lst (eva_cons ev_int (eva_cons ev_int eva_nil)) (by show 2 ≤ sizeLine; decide)) (eva_cons (ev_nm 2 rfl) eva_nil)) rfl (by show 2 ≤ sizeLine; decide))))
  rw [if_neg (by rw [h]; decide)]
  refine rns_ifr (p := dupN o) (EtS.to (Et.s (et_lt (ev_lenset (ns := o) T.b_len T.b_set (ev_nm 0 rfl) rfl (by omega)) (ev_len T.b_len (ev_nm 0 rfl) (.inl rfl)))) (by rw [List.length_map, dup_lt])) (fun h => ?_) (fun h => ?_)
  · rw [if_pos h]
    exact rns_one (rn_ret (Ev.s (ev_tupD (eva_cons (ev_lst (eva_cons ev_int (eva_cons ev_int eva_nil)) (by show 2 ≤ sizeLine; decide)) (eva_cons (ev_nm 2 rfl) eva_nil)) rfl (by show 2 ≤ sizeLine; decide))))
  rw [if_neg (by rw [h]; decide)]
  exact rns_one (rn_ret (Ev.s (ev_tupD (eva_cons (ev_lst eva_nil (Nat.zero_le _)) (eva_cons ev_non eva_nil)) rfl (by show 2 ≤ sizeLine; decide))))
end
end K46
namespace K46
open PySem L2
section
variable {P : Program} {w : World} {K : PySem.W.Frag} {mg : Str → Option Value} {base : Heap}
theorem atI_last {α : Type} {l : List α} {x : α} : atI (l ++ [x]) (-1) = some x := by
  unfold atI ixN
  rw [if_neg (by decide), if_pos (by rw [List.length_append]; simp; omega)]
  show (l ++ [x])[_]? = _
  have e : (-1 + ((l ++ [x]).length : Int)).toNat = l.length := by rw [List.length_append, List.length_singleton]; omega
  rw [e, List.getElem?_append_right (Nat.le_refl _), Nat.sub_self]; rfl
theorem er_tab (cs : List Int) (os : List (List Int)) : er (.tp [tInts cs, tRows os]) = dTab cs os := by
  show Dv.tup [er _, er _] = _
  rw [er_tInts, er_tRows]
theorem cl_tab (cs : List Int) (os : List (List Int)) : Cl (.tp [tInts cs, tRows os]) := ⟨cl_ints cs, cl_tRows os, True.intro⟩
theorem dp_tab (cs : List Int) (os : List (List Int)) : dpD (dTab cs os) ≤ 50 := Nat.le_trans (dpD_tup (n := 2) fun d hd => by
  rcases List.mem_cons.mp hd with rfl | hd
  · exact Nat.le_trans (dpD_dis _) (by decide)
  · rw [List.mem_singleton.mp hd]; exact dpD_rows _) (by decide)
abbrev nKA : List Str := ["_law_table_here", "_law_asker", "_law_order_here", "_law_made", "_law_due_here", "_law_one"]
abbrev s__law_kept_apart : Stmt := top 31
theorem sc__law_kept_apart : FnScope nKA ["_law_table_here", "_law_asker", "_law_order_here", "_law_made"] (defScope s__law_kept_apart) := ⟨rfl, rfl, rfl, by decide +kernel, rfl, by decide +kernel, by decide +kernel⟩
def rKA (ts : List Tr) (b : Bool) : Prop := ∃ (cs : List Int) (os : List (List Int)) (n : Int) (o cs2 : List Int) (os2 : List (List Int)), Sz08 cs os ∧ o.length ≤ 100 ∧ Sz08 cs2 os2 ∧ ts = [.tp [tInts cs, tRows os], ti n, tInts o, .tp [tInts cs2, tRows os2]] ∧ b = true
theorem ok__law_kept_apart {f : Addr} {fd : FuncData} {k : Nat} (F : Fun K "_law_kept_apart" "_law_kept_apart" s__law_kept_apart f fd) (T : Txt mg) : FnOk P w K mg base CX0 (k + 1) f fd ["_law_table_here", "_law_asker", "_law_order_here", "_law_made"] (spO K rKA) := by
  refine fn_okO F.d sc__law_kept_apart (fun ts b h => by obtain ⟨_, _, _, _, _, _, _, _, _, rfl, _⟩ := h; rfl) fun ts b h => ?_
  obtain ⟨cs, os, n, o, cs2, os2, sz, ho, sz2, rfl, rfl⟩ := h
  have big : 1000 < sizeLine := by decide
  have c1 := sz.c
  have c2 := sz2.c
  have o2 := sz2.o
  show Rns _ _ [some (.tp [tInts cs, tRows os]), some (ti n), some (tInts o), some (.tp [tInts cs2, tRows os2]), none, none] _
  refine rns_cons (ρ1 := [some (.tp [tInts cs, tRows os]), some (ti n), some (tInts o), some (.tp [tInts cs2, tRows os2]), some (.tp [tInts cs2, tRows os2]), none]) (rn_set 4 (Ev.pk (ev_tup (eva_cons (Ev.to (t' := tInts cs2) (ev_list T.b_list (ev_ixT (ev_nm 3 rfl) ev_int (er_tab cs2 os2) (x0_tab cs2 os2)) (.inl rfl)) (by rw [ints_tr])) (eva_cons (ev_lcm (own := ["_law_one"]) (fr := []) os2 dis tInts (fun i => lcs ⟨rfl, rfl, by decide +kernel, by decide +kernel, by decide +kernel, by decide +kernel⟩) (evi_list (ev_ixT (ev_nm 3 rfl) ev_int (er_tab cs2 os2) (x1_tab cs2 os2)) rfl) (evg_nm 0 (fun _ => by show List.Nodup (["_law_one"] : List Str); decide)) (by decide) (by omega) (fun o ho => ⟨_, rfl, by exact Ev.to (ev_list T.b_list (ev_nm 0 rfl) (.inl rfl)) (by rw [ints_tr])⟩) (fun dd => by cases dd <;> rfl)) eva_nil)) (by show 2 ≤ sizeLine; decide)) (cl_tab cs2 os2)) (fun _ => sc__law_kept_apart.nd)) ?_
  refine rns_cons (ρ1 := [some (.tp [tInts cs, tRows os]), some (ti n), some (tInts (o ++ [0])), some (.tp [tInts cs2, tRows os2]), some (.tp [tInts cs2, tRows os2]), none]) ?_ ?_
  · have e : tInts (o ++ [0]) = Tr.ow ((o.map fun n => Tr.fz (di n)) ++ [ti 0]) := by show Tr.ow _ = _; rw [List.map_append]; rfl
    rw [e]
    exact rn_append 2 rfl (Ev.s ev_int) (by rw [List.length_map]; omega)
  refine rns_cons (rn_trows 0 5 (c := 0) rfl rfl (fun o ho => by have := sz.r o ho; omega) (fun i => ps_for PassesOwn.never rfl (pi_list (pe_ix ix_tup (pv 0) pe_int (fun _ _ => rfl))) (pg_name (i := 5) sc__law_kept_apart.nd rfl (by first | exact Or.inl rfl | exact Or.inr rfl)) (pss_one (ps_expr (pe_bm PySem.F.plainAttrs_list PySem.F.slot_list_append PySem.F.type_list_append mt_append (pv 5) (pa_cons pe_int pa_nil)))))) ?_
  refine rns_cons (rn_tapp 0 (c := 0) rfl (by omega) (fun i => ps_expr (pe_bm PySem.F.plainAttrs_list PySem.F.slot_list_append PySem.F.type_list_append mt_append (pe_ix ix_tup (pv 0) pe_int (fun _ _ => rfl)) (pa_cons pe_int pa_nil)))) ?_
  show Rns _ _ [some (.tp [tInts (cs ++ [0]), tRows (os.map (· ++ [0]))]), some (ti n), some (tInts (o ++ [0])), some (.tp [tInts cs2, tRows os2]), some (.tp [tInts cs2, tRows os2]), none] _
  refine rns_cons (rn_skip (Et.pk (et_neS (ev_nm 3 rfl) (ev_nm 4 rfl) (.inr ⟨_, _, er_tab cs2 os2, er_tab cs2 os2⟩) (by show dpD (er (.tp [tInts cs2, tRows os2])) ≤ 50; rw [er_tab]; exact dp_tab cs2 os2))) (by show (!eqD (er (.tp [tInts cs2, tRows os2])) (er (.tp [tInts cs2, tRows os2]))) = false; rw [er_tab, eqD_refl (d := dTab cs2 os2) (okD_tab cs2 os2)]; rfl)) ?_
  refine rns_cons (rn_tapp 3 (c := 1) rfl (by omega) (fun i => ps_expr (pe_bm PySem.F.plainAttrs_list PySem.F.slot_list_append PySem.F.type_list_append mt_append (pe_ix ix_tup (pv 3) pe_int (fun _ _ => rfl)) (pa_cons pe_int pa_nil)))) ?_
  refine rns_cons (rn_trows 3 5 (c := 1) rfl rfl (fun o ho => by have := sz2.r o ho; omega) (fun i => ps_for PassesOwn.never rfl (pi_list (pe_ix ix_tup (pv 3) pe_int (fun _ _ => rfl))) (pg_name (i := 5) sc__law_kept_apart.nd rfl (by first | exact Or.inl rfl | exact Or.inr rfl)) (pss_one (ps_expr (pe_bm PySem.F.plainAttrs_list PySem.F.slot_list_append PySem.F.type_list_append mt_append (pv 5) (pa_cons pe_int pa_nil)))))) ?_
  show Rns _ _ [some (.tp [tInts (cs ++ [0]), tRows (os.map (· ++ [0]))]), some (ti n), some (tInts (o ++ [0])), some (.tp [tInts (cs2 ++ [1]), tRows (os2.map (· ++ [1]))]), some (.tp [tInts cs2, tRows os2]), none] _
  refine rns_one (rn_ret (Ev.pk (Ev.to (t := L2.tb (true && true)) (ev_and (p := true) (q := true) (Ev.to (ev_eqS (ta := .fz (.lst ((os2.map (· ++ [1])).map dis))) (tb' := tRows (os2.map (· ++ [1]))) (ev_ixT (ev_nm 3 rfl) ev_int (er_tab _ _) (x1_tab _ _)) (Ev.to (ev_lcm (own := ["_law_one"]) (fr := []) os2 dis (fun o => tInts (o ++ [1])) (fun i => lcs ⟨rfl, rfl, by decide +kernel, by decide +kernel, by decide +kernel, by decide +kernel⟩) (evi_list (ev_ixT (ev_nm 4 rfl) ev_int (er_tab cs2 os2) (x1_tab cs2 os2)) rfl) (evg_nm 0 (fun _ => by show List.Nodup (["_law_one"] : List Str); decide)) (by decide) (by omega) (fun o ho => ⟨_, rfl, by exact Ev.to (ev_cat (xs := o.map di) (ys := [di 1]) (ev_nm 0 rfl) (ev_lst (eva_cons ev_int eva_nil) (by show 1 ≤ sizeLine; decide)) rfl rfl (by have := sz2.r o ho; rw [List.length_map]; show _ + 1 ≤ _; omega)) (by rw [List.map_append, ints_tr]; show _ = Tr.ow _; rw [List.map_append]; rfl)⟩) (fun dd => by cases dd <;> rfl)) (by show Tr.ow _ = Tr.ow _; rw [List.map_map]; rfl)) (.inl ⟨_, _, rfl, er_tRows _⟩) (Nat.le_trans (dpD_rows _) (by decide))) (by rw [er_tRows]; show L2.tb (eqD (.lst ((os2.map (· ++ [1])).map dis)) _) = _; rw [eqD_refl (okD_rows _)])) fun _ => (ev_one (Ev.to (ev_eq (i := 0) (ev_ix (d := di 0) (ev_nm 2 rfl) (ev_neg ev_int) (er_tInts _) ?_) ev_int) rfl))) rfl) True.intro))
  rw [List.map_append]
  exact atI_last
end
end K46
namespace K46
open PySem L2
section
variable {P : Program} {w : World} {K : PySem.W.Frag} {mg : Str → Option Value} {base : Heap}
theorem et_neF {ι : Type} {F : Fam ι} {a b : Expr} {ρ : En} {pos : Pos} {u v : V} (ha : Ev F a ρ (.fz (.fl u))) (hb : Ev F b ρ (.fz (.fl v))) (hs : scal u v = true) : Et F (.Compare a [.NotEq] [b] pos) ρ (!decide (u = v)) :=
  et_cmp (fun _ => op_ne) ha hb (fun G H x y Q s hx hy k => by rw [hvi hx, hvi hy]; exact ⟨hs, by simpa using k⟩) (nomark _)
theorem any_no {l : List Int} {q : Int → Bool} (h : ∀ x ∈ l, q x = false) : (l.map q).any id = false := by
  rw [List.any_eq_false]
  intro b hb
  obtain ⟨x, hx, rfl⟩ := List.mem_map.mp hb
  rw [h x hx]
  exact Bool.false_ne_true
theorem find_set {p : List Int → Bool} {os : List (List Int)} {j : Nat} {o : List Int} (hj : j < os.length) (h : ∀ o ∈ os, p o = false) : (os.set j o).findIdx? p = if p o = true then some j else none := by
  split
  · rename_i hp
    rw [List.findIdx?_eq_some_iff_getElem]
    refine ⟨by rw [List.length_set]; exact hj, by rw [List.getElem_set_self]; exact hp, fun i hi => ?_⟩
    rw [List.getElem_set_ne (by omega), h _ (List.getElem_mem _)]
    exact Bool.false_ne_true
  · rename_i hp
    rw [List.findIdx?_eq_none_iff]
    intro x hx
    rcases List.mem_or_eq_of_mem_set hx with z | rfl
    · rw [h x z]
    · cases hq : p x with
      | true => exact absurd hq hp
      | false => rfl
theorem why_due {cs : List Int} {os : List (List Int)} (ok : TabOk cs os) {j : Nat} (hj : j < os.length) (o : List Int) : whyT cs os (j : Nat) o = dueW o (cs.length : Nat) j := by
  have c6 := ok.c6
  have o6 := ok.o6
  have o1 := ok.o1
  unfold whyT
  rw [if_neg (by omega), Int.toNat_natCast]
  unfold whyF dueW
  have b3 : (cs.map fun x => decide (x < 0) || decide (9 < x)).any id = false := any_no fun x hx => by
    have := ok.cnt x hx
    rw [decide_eq_false (by omega), decide_eq_false (by omega)]; rfl
  have b1 : ∀ o ∈ os, badN (cs.length : Nat) o = false := fun o ho => any_no fun x hx => by
    have := ok.rng o ho x hx
    rw [decide_eq_false (by omega), decide_eq_false (by omega)]; rfl
  have b2 : ∀ o ∈ os, dupN o = false := fun o ho => by
    unfold dupN
    rw [unlike_nodup (ok.nd o ho), decide_eq_true rfl]; rfl
  rw [List.length_set, if_neg (by omega), if_neg (by omega), b3, if_neg (by decide), find_set hj b1, find_set hj b2]
  cases badN ((cs.length : Nat) : Int) o with
  | true => rfl
  | false =>
    cases dupN o with
    | true => rfl
    | false => rfl
theorem nob_at {c far : Int} (hf : 0 ≤ far) (cell : Int) : ∃ x, atI [di c, di (c + far), di (-1), di (-1 - far)] (cell / 8 % 4) = some (di x) ∧ (x < 0 ∨ c ≤ x) := by
  have a := Int.emod_nonneg (cell / 8) (show (4 : Int) ≠ 0 by decide)
  have b := Int.emod_lt_of_pos (cell / 8) (show (0 : Int) < 4 by decide)
  have : cell / 8 % 4 = 0 ∨ cell / 8 % 4 = 1 ∨ cell / 8 % 4 = 2 ∨ cell / 8 % 4 = 3 := by omega
  rcases this with h | h | h | h <;> rw [h]
  · exact ⟨_, rfl, .inr (by omega)⟩
  · exact ⟨_, rfl, .inr (by omega)⟩
  · exact ⟨_, rfl, .inl (by omega)⟩
  · exact ⟨_, rfl, .inl (by omega)⟩
def madeT (cs : List Int) (os : List (List Int)) (j : Nat) (o : List Int) : Why → Tr
  | .made => .tp [tInts cs, tRows (os.set j o)]
  | _ => tn
theorem tld_eq (cs : List Int) (os : List (List Int)) (j : Nat) (o : List Int) (ω : Why) : tldT cs os (j : Nat) o ω = .tp [madeT cs os j o ω, tInts (clsF ω), .fz (.fl (fldV ω))] := by cases ω <;> rfl
theorem cl_tld (cs : List Int) (os : List (List Int)) (j : Nat) (o : List Int) (ω : Why) : Cl (.tp [madeT cs os j o ω, tInts (clsF ω), .fz (.fl (fldV ω))]) := ⟨by
  cases ω with
  | made => exact cl_tab cs (os.set j o)
  | _ => exact True.intro, cl_ints _, True.intro, True.intro⟩
theorem tab_sz {cs : List Int} {os : List (List Int)} (ok : TabOk cs os) : Sz08 cs os := ⟨by have := ok.c6; omega, by have := ok.o6; omega, fun o ho => by
  have := nodup_len (ok.nd o ho) (fun x hx => ok.rng o ho x hx)
  have := ok.c6
  omega⟩
abbrev nLW : List Str := ["_law_script", "_law_table_here", "_law_kept", "_law_many", "_law_far", "_law_cell", "_law_order_here", "_law_count", "_law_nobody", "_law_asker", "_law_some", "_law_field", "_law_handed", "_law_made", "_law_told_here", "_law_named", "_law_due_here"]
abbrev s_law : Stmt := top 32
theorem sc_law : FnScope nLW ["_law_script"] (defScope s_law) := ⟨rfl, rfl, rfl, by decide +kernel, rfl, by decide +kernel, by decide +kernel⟩
theorem ok_law {f f1 f2 f3 f4 f5 f6 f7 : Addr} {fd fd1 fd2 fd3 fd4 fd5 fd6 fd7 : FuncData} {k : Nat} (F : Fun K "law" "law" s_law f fd) (T : Txt mg) (K__law_cell_at : Kn P w K mg base CX0 (k + 1) "_law_cell_at" f1 fd1 ["_law_script", "_law_k"] (spT K rCell)) (K__law_order : Kn P w K mg base CX0 (k + 1) "_law_order" f2 fd2 ["_law_cell", "_law_many"] (spT K rOrder))
    (K__law_table : Kn P w K mg base CX0 (k + 2) "_law_table" f3 fd3 ["_law_script", "_law_start", "_law_things", "_law_askers"] (spT K rTable)) (K__law_told : Kn P w K mg base CX0 (k + 6) "_law_told" f4 fd4 ["_law_table_here", "_law_asker", "_law_order_here"] (spT K rTL)) (K__law_spoiled : Kn P w K mg base CX0 (k + 1) "_law_spoiled" f5 fd5 ["_law_order_here", "_law_many", "_law_cell", "_law_far"] (spT K rSpoil))
    (K__law_due : Kn P w K mg base CX0 (k + 1) "_law_due" f6 fd6 ["_law_order_here", "_law_many", "_law_asker"] (spT K rDue)) (K__law_kept_apart : Kn P w K mg base CX0 (k + 1) "_law_kept_apart" f7 fd7 ["_law_table_here", "_law_asker", "_law_order_here", "_law_made"] (spO K rKA)) : FnOk P w K mg base CX0 (k + 7) f fd ["_law_script"] (spT K rLaw) := by
  refine fn_ok F.d sc_law (fun dd t h => by obtain ⟨_, _, rfl, _⟩ := h; rfl) fun dd t h => ?_
  obtain ⟨ns, hns, rfl, rfl⟩ := h
  refine ⟨_, .inl rfl, ?_⟩
  have big : 1000 < sizeLine := by decide
  have r1 : k + 1 ≤ k + 6 := by omega
  have r2 : k + 2 ≤ k + 6 := by omega
  refine rns_cons (rn_set 1 (Ev.s (ev_call K__law_table r2 (eva_cons (ev_nm 0 rfl) (eva_cons ev_int (eva_cons ev_int (eva_cons ev_int eva_nil)))) ⟨ns, 0, 6, by decide, by decide, by decide, rfl, rfl⟩)) (fun _ => sc_law.nd)) ?_
  have ok := tab_ok (ns := ns) (st := 0) (most := 6) (by decide) (by decide)
  show Rns _ _ [some (.fz (dis ns)), some (.tp [tInts (countsT ns 0), tRows (ordersT ns 0 6)]), none, none, none, none, none, none, none, none, none, none, none, none, none, none, none] _
  generalize countsT ns 0 = cs at ok ⊢
  generalize ordersT ns 0 6 = os at ok ⊢
  have sz := tab_sz ok
  have c6 := ok.c6
  have o6 := ok.o6
  have o1 := ok.o1
  refine rns_cons (ρ1 := [some (.fz (dis ns)), some (.tp [tInts cs, tRows os]), some (.tp [tInts cs, tRows os]), none, none, none, none, none, none, none, none, none, none, none, none, none, none]) (rn_set 2 (Ev.pk (ev_tup (eva_cons (Ev.to (t' := tInts cs) (ev_list T.b_list (ev_ixT (ev_nm 1 rfl) ev_int (er_tab cs os) (x0_tab cs os)) (.inl rfl)) (by rw [ints_tr])) (eva_cons (ev_lcm (own := ["_law_one"]) (fr := []) os dis tInts (fun i => lcs ⟨rfl, rfl, by decide +kernel, by decide +kernel, by decide +kernel, by decide +kernel⟩) (evi_list (ev_ixT (ev_nm 1 rfl) ev_int (er_tab cs os) (x1_tab cs os)) rfl) (evg_nm 0 (fun _ => by show List.Nodup (["_law_one"] : List Str); decide)) (by decide) (by omega) (fun o ho => ⟨_, rfl, by exact Ev.to (ev_list T.b_list (ev_nm 0 rfl) (.inl rfl)) (by rw [ints_tr])⟩) (fun dd => by cases dd <;> rfl)) eva_nil)) (by show 2 ≤ sizeLine; decide)) (cl_tab cs os)) (fun _ => sc_law.nd)) ?_
  refine rns_freezeTo (d := dTab cs os) 2 rfl (er_tab cs os) ?_
  refine rns_cons (rn_set 3 (EvS.to (t' := ti (cs.length : Nat)) (Ev.pk (ev_len T.b_len (ev_ixT (ev_nm 1 rfl) ev_int (er_tab cs os) (x0_tab cs os)) (.inl rfl)) True.intro) (by rw [List.length_map])) (fun _ => sc_law.nd)) ?_
  refine rns_cons (rn_set 4 (Ev.s (ev_mod (ev_call K__law_cell_at r1 (eva_cons (ev_nm 0 rfl) (eva_cons ev_int eva_nil)) ⟨ns, 16, by decide, rfl, rfl⟩) (ev_pow ev_int ev_int ⟨by decide, by decide, by decide⟩) (by decide))) (fun _ => sc_law.nd)) ?_
  have f0 := Int.emod_nonneg (cellF ns 16) (show (10 : Int) ^ (30 : Int).toNat ≠ 0 by decide)
  show Rns _ _ [some (.fz (dis ns)), some (.tp [tInts cs, tRows os]), some (.fz (dTab cs os)), some (ti (cs.length : Nat)), some (ti (cellF ns 16 % (10 : Int) ^ (30 : Int).toNat)), none, none, none, none, none, none, none, none, none, none, none, none] _
  generalize cellF ns 16 % (10 : Int) ^ (30 : Int).toNat = far at f0 ⊢
  refine rns_cons (rn_set 5 (Ev.s (ev_call K__law_cell_at r1 (eva_cons (ev_nm 0 rfl) (eva_cons ev_int eva_nil)) ⟨ns, 13, by decide, rfl, rfl⟩)) (fun _ => sc_law.nd)) ?_
  have hol : (orderF (cellF ns 14) cs.length).length ≤ 6 := by
    have h := order_ok (cellF ns 14) cs.length
    have := nodup_len h.1 h.2
    omega
  refine rns_cons (rn_set 6 (Ev.s (ev_call K__law_spoiled r1 (eva_cons (ev_call K__law_order r1 (eva_cons (ev_call K__law_cell_at r1 (eva_cons (ev_nm 0 rfl) (eva_cons ev_int eva_nil)) ⟨ns, 14, by decide, rfl, rfl⟩) (eva_cons (ev_nm 3 rfl) eva_nil)) ⟨cellF ns 14, cs.length, c6, rfl, rfl⟩) (eva_cons (ev_nm 3 rfl) (eva_cons (ev_call K__law_cell_at r1 (eva_cons (ev_nm 0 rfl) (eva_cons ev_int eva_nil)) ⟨ns, 15, by decide, rfl, rfl⟩) (eva_cons (ev_nm 4 rfl) eva_nil)))) ⟨orderF (cellF ns 14) cs.length, (cs.length : Nat), cellF ns 15, far, by omega, by show [er (tInts _), _, _, _] = _; rw [er_tInts]; rfl, rfl⟩)) (fun _ => sc_law.nd)) ?_
  have ho := spoil_len (orderF (cellF ns 14) cs.length) (cs.length : Nat) (cellF ns 15) far
  generalize hoo : spoilF (orderF (cellF ns 14) cs.length) (cs.length : Nat) (cellF ns 15) far = o at ho ⊢
  replace ho : o.length ≤ 100 := by omega
  clear hoo hol
  refine rns_cons (rn_set 7 (EvS.to (t' := ti (os.length : Nat)) (Ev.pk (ev_len T.b_len (ev_ixT (ev_nm 1 rfl) ev_int (er_tab cs os) (x1_tab cs os)) (.inl rfl)) True.intro) (by rw [List.length_map])) (fun _ => sc_law.nd)) ?_
  generalize cellF ns 13 = cell
  obtain ⟨x, hx, hxn⟩ := nob_at (c := (os.length : Nat)) f0 cell
  refine rns_cons (rn_set 8 (Ev.s (ev_ix (d := di x) (ev_lst (eva_cons (ev_nm 7 rfl) (eva_cons (ev_add (ev_nm 7 rfl) (ev_nm 4 rfl)) (eva_cons (ev_neg ev_int) (eva_cons (ev_sub (ev_neg ev_int) (ev_nm 4 rfl)) eva_nil)))) (by show 4 ≤ sizeLine; decide)) (ev_mod (ev_div (ev_nm 5 rfl) ev_int ⟨by decide, small_lt (by decide) (by decide)⟩) ev_int (by decide)) rfl hx)) (fun _ => sc_law.nd)) ?_
  show Rns _ _ [some (.fz (dis ns)), some (.tp [tInts cs, tRows os]), some (.fz (dTab cs os)), some (ti (cs.length : Nat)), some (ti far), some (ti cell), some (.fz (dis o)), some (ti (os.length : Nat)), some (ti x), none, none, none, none, none, none, none, none] _
  have hR1 : rTL [er (.tp [tInts cs, tRows os]), di x, er (.ow ((o.map di).map Tr.fz))] (.tp [tn, tInts [2, 13], tn]) := ⟨cs, os, x, o, sz, ho, by rw [er_tab, er_fzs], by rw [show whyT cs os x o = .asker from if_pos hxn]; rfl⟩
  refine rns_cons (rn_skip (Et.pk (et_neS (ta := .tp [tn, tInts [2, 13], tn]) (tb' := .tp [tn, .ow [ti 2, ti 13], tn]) (ev_call K__law_told (Nat.le_refl _) (eva_cons (ev_nm 1 rfl) (eva_cons (ev_nm 8 rfl) (eva_cons (ev_list T.b_list (ev_nm 6 rfl) (.inl rfl)) eva_nil))) hR1) (ev_tup (eva_cons ev_non (eva_cons (ev_lst (eva_cons ev_int (eva_cons ev_int eva_nil)) (by show 2 ≤ sizeLine; decide)) (eva_cons ev_non eva_nil))) (by show 3 ≤ sizeLine; decide)) (.inr ⟨_, _, rfl, rfl⟩) (by decide))) rfl) ?_
  have a0 := Int.emod_nonneg (cell / 32) (show ((os.length : Nat) : Int) ≠ 0 by omega)
  have a1 := Int.emod_lt_of_pos (cell / 32) (show 0 < ((os.length : Nat) : Int) by omega)
  obtain ⟨j, ej⟩ : ∃ j : Nat, cell / 32 % ((os.length : Nat) : Int) = (j : Int) := ⟨(cell / 32 % ((os.length : Nat) : Int)).toNat, by omega⟩
  have hj : j < os.length := by omega
  refine rns_cons (rn_set 9 (EvS.to (t' := ti (j : Nat)) (Ev.s (ev_mod (ev_div (ev_nm 5 rfl) ev_int ⟨by decide, small_lt (by decide) (by decide)⟩) (ev_nm 7 rfl) (by omega))) (by rw [ej])) (fun _ => sc_law.nd)) ?_
  refine rns_cons (rn_set2 (Ev.s (ev_call K__law_due r1 (eva_cons (ev_nm 6 rfl) (eva_cons (ev_nm 3 rfl) (eva_cons (ev_nm 9 rfl) eva_nil))) ⟨o, (cs.length : Nat), j, ho, rfl, rfl⟩)) (evg_t2 10 11 (fun _ => sc_law.nd)) rfl) ?_
  refine rns_cons (rn_set 12 (EvS.to (t' := tInts o) (Ev.s (ev_list T.b_list (ev_nm 6 rfl) (.inl rfl))) (by rw [ints_tr])) (fun _ => sc_law.nd)) ?_
  have hW := why_due ok hj o
  generalize dueW o ((cs.length : Nat) : Int) j = W at hW ⊢
  show Rns _ _ [some (.fz (dis ns)), some (.tp [tInts cs, tRows os]), some (.fz (dTab cs os)), some (ti (cs.length : Nat)), some (ti far), some (ti cell), some (.fz (dis o)), some (ti (os.length : Nat)), some (ti x), some (ti (j : Nat)), some (.fz (dis (clsF W))), some (.fz (.fl (fldV W))), some (tInts o), none, none, none, none] _
  have hR2 : rTL [er (.tp [tInts cs, tRows os]), di (j : Nat), er (tInts o)] (.tp [madeT cs os j o W, tInts (clsF W), .fz (.fl (fldV W))]) := ⟨cs, os, (j : Nat), o, sz, ho, by rw [er_tab, er_tInts], by rw [hW, tld_eq]⟩
  refine rns_cons (rn_unp3 (ta := madeT cs os j o W) (tb := tInts (clsF W)) (tc := .fz (.fl (fldV W))) 13 14 15 (by decide) (by decide) (by decide) (Ev.pk (ev_call K__law_told (Nat.le_refl _) (eva_cons (ev_nm 1 rfl) (eva_cons (ev_nm 9 rfl) (eva_cons (ev_nm 12 rfl) eva_nil))) hR2) (cl_tld cs os j o W)) (fun i => pg_tup rfl (pgs_cons (pg_name (i := 13) sc_law.nd rfl (by first | exact Or.inl rfl | exact Or.inr rfl)) (pgs_cons (pg_name (i := 14) sc_law.nd rfl (by first | exact Or.inl rfl | exact Or.inr rfl)) (pgs_cons (pg_name (i := 15) sc_law.nd rfl (by first | exact Or.inl rfl | exact Or.inr rfl)) pgs_nil)))) rfl rfl rfl) ?_
  show Rns _ _ [some (.fz (dis ns)), some (.tp [tInts cs, tRows os]), some (.fz (dTab cs os)), some (ti (cs.length : Nat)), some (ti far), some (ti cell), some (.fz (dis o)), some (ti (os.length : Nat)), some (ti x), some (ti (j : Nat)), some (.fz (dis (clsF W))), some (.fz (.fl (fldV W))), some (tInts o), some (madeT cs os j o W), some (tInts (clsF W)), some (.fz (.fl (fldV W))), none] _
  refine rns_cons (rn_skip (Et.pk (Ew.et (ew_or (p := false) (q := false) (Et.to (et_neS (ev_nm 14 rfl) (ev_nm 10 rfl) (.inl ⟨_, _, er_tInts _, rfl⟩) (by show dpD (er (tInts (clsF W))) ≤ 50; rw [er_tInts]; exact Nat.le_trans (dpD_dis _) (by decide))) (by show (!eqD (er (tInts (clsF W))) (dis (clsF W))) = false; rw [er_tInts, eqD_refl (okD_dis _)]; rfl)) fun _ => (ew_or (p := false) (q := false) (Et.to (et_neF (ev_nm 15 rfl) (ev_nm 11 rfl) (by cases W <;> rfl)) (by rw [decide_eq_true rfl]; rfl)) fun _ => (ew_or (p := false) (q := false) (Et.to (et_neS (ev_nm 1 rfl) (ev_nm 2 rfl) (.inr ⟨_, _, er_tab cs os, rfl⟩) (by show dpD (er (.tp [tInts cs, tRows os])) ≤ 50; rw [er_tab]; exact dp_tab cs os)) (by show (!eqD (er (.tp [tInts cs, tRows os])) (dTab cs os)) = false; rw [er_tab, eqD_refl (d := dTab cs os) (okD_tab cs os)]; rfl)) fun _ => (ew_or (p := false) (q := false) (Et.to (et_neS (ev_nm 12 rfl) (ev_nm 6 rfl) (.inl ⟨_, _, er_tInts _, rfl⟩) (by show dpD (er (tInts o)) ≤ 50; rw [er_tInts]; exact Nat.le_trans (dpD_dis _) (by decide))) (by show (!eqD (er (tInts o)) (dis o)) = false; rw [er_tInts, eqD_refl (okD_dis _)]; rfl)) fun _ => (ew_or1 (et_val (ev_isi (bo := false) T.b_isinstance T.b_bool bt_bool (ev_nm 15 rfl) (by cases W <;> with_unfolding_all rfl)))))))))) rfl) ?_
  by_cases hm : W = .made
  · subst hm
    show Rns _ _ [some (.fz (dis ns)), some (.tp [tInts cs, tRows os]), some (.fz (dTab cs os)), some (ti (cs.length : Nat)), some (ti far), some (ti cell), some (.fz (dis o)), some (ti (os.length : Nat)), some (ti x), some (ti (j : Nat)), some (.fz (dis [])), some tn, some (tInts o), some (.tp [tInts cs, tRows (os.set j o)]), some (tInts []), some tn, none] _
    refine rns_cons (rn_skip (Et.s (et_neS (ev_nm 10 rfl) (ev_lst eva_nil (Nat.zero_le _)) (.inl ⟨_, _, rfl, rfl⟩) (by decide))) rfl) ?_
    refine rns_cons (ρ1 := [some (.fz (dis ns)), some (.tp [tInts cs, tRows os]), some (.fz (dTab cs os)), some (ti (cs.length : Nat)), some (ti far), some (ti cell), some (.fz (dis o)), some (ti (os.length : Nat)), some (ti x), some (ti (j : Nat)), some (.fz (dis [])), some tn, some (tInts o), some (.tp [tInts cs, tRows (os.set j o)]), some (tInts []), some tn, some (.tp [tInts cs, tRows os])]) (rn_set 16 (Ev.s (ev_tup (eva_cons (Ev.to (t' := tInts cs) (ev_list T.b_list (ev_ixT (ev_nm 2 rfl) ev_int rfl (x0_tab cs os)) (.inl rfl)) (by rw [ints_tr])) (eva_cons (ev_lcm (own := ["_law_one"]) (fr := []) os dis tInts (fun i => lcs ⟨rfl, rfl, by decide +kernel, by decide +kernel, by decide +kernel, by decide +kernel⟩) (evi_list (ev_ixT (ev_nm 2 rfl) ev_int rfl (x1_tab cs os)) rfl) (evg_nm 0 (fun _ => by show List.Nodup (["_law_one"] : List Str); decide)) (by decide) (by omega) (fun o ho => ⟨_, rfl, by exact Ev.to (ev_list T.b_list (ev_nm 0 rfl) (.inl rfl)) (by rw [ints_tr])⟩) (fun dd => by cases dd <;> rfl)) eva_nil)) (by show 2 ≤ sizeLine; decide))) (fun _ => sc_law.nd)) ?_
    refine rns_cons (rn_tpset 16 1 (us := os.map tInts) (n := (j : Nat)) (m := j) rfl rfl (Ev.s (ev_nm 9 rfl)) (by rw [List.length_map]; unfold ixN; rw [if_pos (by omega), if_pos (by omega), Int.toNat_natCast]) (Ev.s (ev_nm 6 rfl)) (fun i => pg_sub (pe_ix (ix_tupK rfl) (pv 16) pe_int (fun _ _ => rfl)) (uE_ok i) set_list)) ?_
    have ed : er (.tp [tInts cs, .ow ((os.map tInts).set j (.fz (dis o)))]) = dTab cs (os.set j o) := by
      show Dv.tup [er _, er (.ow _)] = _
      rw [er_tInts]
      show Dv.tup [_, Dv.lst (ers _)] = Dv.tup [_, Dv.lst _]
      rw [ers_map, List.map_set, List.map_set, List.map_map]
      have : (er ∘ tInts) = dis := funext fun l => er_tInts l
      rw [this]; rfl
    show Rns _ _ [some (.fz (dis ns)), some (.tp [tInts cs, tRows os]), some (.fz (dTab cs os)), some (ti (cs.length : Nat)), some (ti far), some (ti cell), some (.fz (dis o)), some (ti (os.length : Nat)), some (ti x), some (ti (j : Nat)), some (.fz (dis [])), some tn, some (tInts o), some (.tp [tInts cs, tRows (os.set j o)]), some (tInts []), some tn, some (.tp [tInts cs, .ow ((os.map tInts).set j (.fz (dis o)))])] _
    refine rns_cons (rn_skip (Et.pk (Ew.et (ew_or (p := false) (q := false) (Et.to (et_not (et_val (ev_isi (bo := true) T.b_isinstance T.b_tuple bt_tuple (ev_nm 13 rfl) (by show PySem.W.kitOne _ (tyD (er (.tp [tInts cs, tRows (os.set j o)]))) _ = _; rw [er_tab]; with_unfolding_all rfl)))) rfl) fun _ => (ew_or1 (Et.to (et_neS (ev_nm 13 rfl) (ev_nm 16 rfl) (.inr ⟨_, _, er_tab _ _, ed⟩) (by show dpD (er (.tp [tInts cs, tRows (os.set j o)])) ≤ 50; rw [er_tab]; exact dp_tab _ _)) (by show (!eqD (er (.tp [tInts cs, tRows (os.set j o)])) (er (.tp [tInts cs, .ow ((os.map tInts).set j (.fz (dis o)))]))) = false; rw [er_tab, ed, eqD_refl (d := dTab cs (os.set j o)) (okD_tab cs (os.set j o))]; rfl)))))) rfl) ?_
    exact rns_one (rn_retO4 1 9 12 13 K__law_kept_apart r1 (by decide) rfl rfl rfl rfl ⟨cs, os, (j : Nat), o, cs, os.set j o, sz, ho, (In46.sz (n := (j : Nat)) ⟨sz, ho, by omega, by omega⟩), rfl, rfl⟩ (fun i => pa_cons (pv 1) (pa_cons (pv 9) (pa_cons (pv 12) (pa_cons (pv 13) pa_nil)))))
  · have em : madeT cs os j o W = tn := by
      cases W with
      | made => exact absurd rfl hm
      | _ => rfl
    rw [em]
    refine rns_ret (rn_ifT (Et.s (et_neS (ev_nm 10 rfl) (ev_lst eva_nil (Nat.zero_le _)) (.inl ⟨_, _, rfl, rfl⟩) (Nat.le_trans (dpD_dis _) (by decide)))) ?_ (rns_one (rn_ret (EvS.to (t' := L2.tb true) (Ev.s (ev_isN (v := .non) (ev_nm 13 rfl))) (by rw [decide_eq_true rfl])))))
    cases W with
    | made => exact absurd rfl hm
    | _ => rfl
end
end K46
namespace K46
open PySem L2
theorem us1 {α : Type} {us : List α} (h : us.length = 1) : ∃ a0, us = [a0] := by
  rcases us with _ | ⟨a0, us⟩; · cases h
  rcases us with _ | ⟨b, us⟩
  · exact ⟨a0, rfl⟩
  · simp at h
theorem us2 {α : Type} {us : List α} (h : us.length = 2) : ∃ a0 a1, us = [a0, a1] := by
  rcases us with _ | ⟨a0, us⟩; · cases h
  rcases us with _ | ⟨a1, us⟩; · cases h
  rcases us with _ | ⟨b, us⟩
  · exact ⟨a0, a1, rfl⟩
  · simp at h
theorem us3 {α : Type} {us : List α} (h : us.length = 3) : ∃ a0 a1 a2, us = [a0, a1, a2] := by
  rcases us with _ | ⟨a0, us⟩; · cases h
  rcases us with _ | ⟨a1, us⟩; · cases h
  rcases us with _ | ⟨a2, us⟩; · cases h
  rcases us with _ | ⟨b, us⟩
  · exact ⟨a0, a1, a2, rfl⟩
  · simp at h
theorem us4 {α : Type} {us : List α} (h : us.length = 4) : ∃ a0 a1 a2 a3, us = [a0, a1, a2, a3] := by
  rcases us with _ | ⟨a0, us⟩; · cases h
  rcases us with _ | ⟨a1, us⟩; · cases h
  rcases us with _ | ⟨a2, us⟩; · cases h
  rcases us with _ | ⟨a3, us⟩; · cases h
  rcases us with _ | ⟨b, us⟩
  · exact ⟨a0, a1, a2, a3, rfl⟩
  · simp at h
theorem all_mk {l : PySem.W.OpenLaw} {w : World} {K : PySem.W.Frag} {h : Heap} {mg : Str → Option Value} {fa : Addr} (X : K.In h) (G : h.Ns mainGlobals mg) (hfa : mg "law" = some (.ref fa))
    {f1 : Addr} {od1 an1 : Option Addr} {sl1 : Array (Option Value)} {oc1 kV1 dc1 pm1 cd1 ct1 : Value}
    {f2 : Addr} {od2 an2 : Option Addr} {sl2 : Array (Option Value)} {oc2 kV2 dc2 pm2 cd2 ct2 : Value}
    {f3 : Addr} {od3 an3 : Option Addr} {sl3 : Array (Option Value)} {oc3 kV3 dc3 pm3 cd3 ct3 : Value}
    {f4 : Addr} {od4 an4 : Option Addr} {sl4 : Array (Option Value)} {oc4 kV4 dc4 pm4 cd4 ct4 : Value}
    {f5 : Addr} {od5 an5 : Option Addr} {sl5 : Array (Option Value)} {oc5 kV5 dc5 pm5 cd5 ct5 : Value}
    {f6 : Addr} {od6 an6 : Option Addr} {sl6 : Array (Option Value)} {oc6 kV6 dc6 pm6 cd6 ct6 : Value}
    {f7 : Addr} {od7 an7 : Option Addr} {sl7 : Array (Option Value)} {oc7 kV7 dc7 pm7 cd7 ct7 : Value}
    {f8 : Addr} {od8 an8 : Option Addr} {sl8 : Array (Option Value)} {oc8 kV8 dc8 pm8 cd8 ct8 : Value}
    {f9 : Addr} {od9 an9 : Option Addr} {sl9 : Array (Option Value)} {oc9 kV9 dc9 pm9 cd9 ct9 : Value}
    {f10 : Addr} {od10 an10 : Option Addr} {sl10 : Array (Option Value)} {oc10 kV10 dc10 pm10 cd10 ct10 : Value}
    {f11 : Addr} {od11 an11 : Option Addr} {sl11 : Array (Option Value)} {oc11 kV11 dc11 pm11 cd11 ct11 : Value}
    {f12 : Addr} {od12 an12 : Option Addr} {sl12 : Array (Option Value)} {oc12 kV12 dc12 pm12 cd12 ct12 : Value}
    {f13 : Addr} {od13 an13 : Option Addr} {sl13 : Array (Option Value)} {oc13 kV13 dc13 pm13 cd13 ct13 : Value}
    {gt1 : Tok} {gt2 : Tok} {cLotError cTooGreat cNoAsker cNoNumber cNoThing cTwice cNoText cNoShares cNoTurns cNoTicket cNoName cDouble cNoRow cNoTable fIT fIW : Addr} {ocIT kVIT dcIT pmIT cdIT ctIT : Value} {odIT anIT : Option Addr} {slIT : Array (Option Value)} {dd0T : Option Addr} {nm0T qn0T : Str} {bs0T sub0T : List Value} {ns0T : Addr} {sn0T : List Str} {ab0T : Bool} {col0T : Option Bool} {k00T k01T k02T k03T k05T : Option Value} {ocIW kVIW dcIW pmIW cdIW ctIW : Value} {odIW anIW : Option Addr} {slIW : Array (Option Value)} {dd0W : Option Addr} {nm0W qn0W : Str} {bs0W sub0W : List Value} {ns0W : Addr} {sn0W : List Str} {ab0W : Bool} {col0W : Option Bool} {k00W k01W k02W k03W k05W : Option Value}
    (a1 : PySem.W.nsIn K mainGlobals "check_orders" = some (some (.ref f1)))
    (l1 : K.lookup f1 = some ⟨oc1, od1, .func (PySem.W.fnOf "check_orders" "check_orders" (defArgs s_check_orders) (defBody s_check_orders) (defScope s_check_orders) .none kV1 dc1 pm1 an1 cd1 ct1), sl1⟩)
    (c1 : PySem.W.codeIn K cd1 "check_orders" = true)
    (k1 : PySem.W.keepIn K (.ref f1) = true)
    (a2 : PySem.W.nsIn K mainGlobals "table_of" = some (some (.ref f2)))
    (l2 : K.lookup f2 = some ⟨oc2, od2, .func (PySem.W.fnOf "table_of" "table_of" (defArgs s_table_of) (defBody s_table_of) (defScope s_table_of) .none kV2 dc2 pm2 an2 cd2 ct2), sl2⟩)
    (c2 : PySem.W.codeIn K cd2 "table_of" = true)
    (k2 : PySem.W.keepIn K (.ref f2) = true)
    (a3 : PySem.W.nsIn K mainGlobals "check_asker" = some (some (.ref f3)))
    (l3 : K.lookup f3 = some ⟨oc3, od3, .func (PySem.W.fnOf "check_asker" "check_asker" (defArgs s_check_asker) (defBody s_check_asker) (defScope s_check_asker) .none kV3 dc3 pm3 an3 cd3 ct3), sl3⟩)
    (c3 : PySem.W.codeIn K cd3 "check_asker" = true)
    (k3 : PySem.W.keepIn K (.ref f3) = true)
    (a4 : PySem.W.nsIn K mainGlobals "told_otherwise" = some (some (.ref f4)))
    (l4 : K.lookup f4 = some ⟨oc4, od4, .func (PySem.W.fnOf "told_otherwise" "told_otherwise" (defArgs s_told_otherwise) (defBody s_told_otherwise) (defScope s_told_otherwise) .none kV4 dc4 pm4 an4 cd4 ct4), sl4⟩)
    (c4 : PySem.W.codeIn K cd4 "told_otherwise" = true)
    (k4 : PySem.W.keepIn K (.ref f4) = true)
    (a5 : PySem.W.nsIn K mainGlobals "_law_cell_at" = some (some (.ref f5)))
    (l5 : K.lookup f5 = some ⟨oc5, od5, .func (PySem.W.fnOf "_law_cell_at" "_law_cell_at" (defArgs s__law_cell_at) (defBody s__law_cell_at) (defScope s__law_cell_at) .none kV5 dc5 pm5 an5 cd5 ct5), sl5⟩)
    (c5 : PySem.W.codeIn K cd5 "_law_cell_at" = true)
    (k5 : PySem.W.keepIn K (.ref f5) = true)
    (a6 : PySem.W.nsIn K mainGlobals "_law_order" = some (some (.ref f6)))
    (l6 : K.lookup f6 = some ⟨oc6, od6, .func (PySem.W.fnOf "_law_order" "_law_order" (defArgs s__law_order) (defBody s__law_order) (defScope s__law_order) .none kV6 dc6 pm6 an6 cd6 ct6), sl6⟩)
    (c6 : PySem.W.codeIn K cd6 "_law_order" = true)
    (k6 : PySem.W.keepIn K (.ref f6) = true)
    (a7 : PySem.W.nsIn K mainGlobals "_law_table" = some (some (.ref f7)))
    (l7 : K.lookup f7 = some ⟨oc7, od7, .func (PySem.W.fnOf "_law_table" "_law_table" (defArgs s__law_table) (defBody s__law_table) (defScope s__law_table) .none kV7 dc7 pm7 an7 cd7 ct7), sl7⟩)
    (c7 : PySem.W.codeIn K cd7 "_law_table" = true)
    (k7 : PySem.W.keepIn K (.ref f7) = true)
    (a8 : PySem.W.nsIn K mainGlobals "_law_classes" = some (some (.ref f8)))
    (l8 : K.lookup f8 = some ⟨oc8, od8, .func (PySem.W.fnOf "_law_classes" "_law_classes" (defArgs s__law_classes) (defBody s__law_classes) (defScope s__law_classes) .none kV8 dc8 pm8 an8 cd8 ct8), sl8⟩)
    (c8 : PySem.W.codeIn K cd8 "_law_classes" = true)
    (k8 : PySem.W.keepIn K (.ref f8) = true)
    (a9 : PySem.W.nsIn K mainGlobals "_law_told" = some (some (.ref f9)))
    (l9 : K.lookup f9 = some ⟨oc9, od9, .func (PySem.W.fnOf "_law_told" "_law_told" (defArgs s__law_told) (defBody s__law_told) (defScope s__law_told) .none kV9 dc9 pm9 an9 cd9 ct9), sl9⟩)
    (c9 : PySem.W.codeIn K cd9 "_law_told" = true)
    (k9 : PySem.W.keepIn K (.ref f9) = true)
    (a10 : PySem.W.nsIn K mainGlobals "_law_spoiled" = some (some (.ref f10)))
    (l10 : K.lookup f10 = some ⟨oc10, od10, .func (PySem.W.fnOf "_law_spoiled" "_law_spoiled" (defArgs s__law_spoiled) (defBody s__law_spoiled) (defScope s__law_spoiled) .none kV10 dc10 pm10 an10 cd10 ct10), sl10⟩)
    (c10 : PySem.W.codeIn K cd10 "_law_spoiled" = true)
    (k10 : PySem.W.keepIn K (.ref f10) = true)
    (a11 : PySem.W.nsIn K mainGlobals "_law_due" = some (some (.ref f11)))
    (l11 : K.lookup f11 = some ⟨oc11, od11, .func (PySem.W.fnOf "_law_due" "_law_due" (defArgs s__law_due) (defBody s__law_due) (defScope s__law_due) .none kV11 dc11 pm11 an11 cd11 ct11), sl11⟩)
    (c11 : PySem.W.codeIn K cd11 "_law_due" = true)
    (k11 : PySem.W.keepIn K (.ref f11) = true)
    (a12 : PySem.W.nsIn K mainGlobals "_law_kept_apart" = some (some (.ref f12)))
    (l12 : K.lookup f12 = some ⟨oc12, od12, .func (PySem.W.fnOf "_law_kept_apart" "_law_kept_apart" (defArgs s__law_kept_apart) (defBody s__law_kept_apart) (defScope s__law_kept_apart) .none kV12 dc12 pm12 an12 cd12 ct12), sl12⟩)
    (c12 : PySem.W.codeIn K cd12 "_law_kept_apart" = true)
    (k12 : PySem.W.keepIn K (.ref f12) = true)
    (a13 : PySem.W.nsIn K mainGlobals "law" = some (some (.ref f13)))
    (l13 : K.lookup f13 = some ⟨oc13, od13, .func (PySem.W.fnOf "law" "law" (defArgs s_law) (defBody s_law) (defScope s_law) .none kV13 dc13 pm13 an13 cd13 ct13), sl13⟩)
    (c13 : PySem.W.codeIn K cd13 "law" = true)
    (k13 : PySem.W.keepIn K (.ref f13) = true)
    (z_isinstance : PySem.W.nsIn K mainGlobals "isinstance" = some none)
    (z_int : PySem.W.nsIn K mainGlobals "int" = some none)
    (z_bool : PySem.W.nsIn K mainGlobals "bool" = some none)
    (z_list : PySem.W.nsIn K mainGlobals "list" = some none)
    (z_tuple : PySem.W.nsIn K mainGlobals "tuple" = some none)
    (z_len : PySem.W.nsIn K mainGlobals "len" = some none)
    (z_range : PySem.W.nsIn K mainGlobals "range" = some none)
    (z_zip : PySem.W.nsIn K mainGlobals "zip" = some none)
    (z_any : PySem.W.nsIn K mainGlobals "any" = some none)
    (z_enumerate : PySem.W.nsIn K mainGlobals "enumerate" = some none)
    (z_set : PySem.W.nsIn K mainGlobals "set" = some none)
    (z_ValueError : PySem.W.nsIn K mainGlobals "ValueError" = some none)
    (g_MOST : PySem.W.nsIn K mainGlobals "MOST" = some (some (.int 6 gt1)))
    (g_MOST_COUNT : PySem.W.nsIn K mainGlobals "MOST_COUNT" = some (some (.int 9 gt2)))
    (g_LotError : PySem.W.nsIn K mainGlobals "LotError" = some (some (.ref cLotError)))
    (g_TooGreat : PySem.W.nsIn K mainGlobals "TooGreat" = some (some (.ref cTooGreat)))
    (g_NoAsker : PySem.W.nsIn K mainGlobals "NoAsker" = some (some (.ref cNoAsker)))
    (g_NoNumber : PySem.W.nsIn K mainGlobals "NoNumber" = some (some (.ref cNoNumber)))
    (g_NoThing : PySem.W.nsIn K mainGlobals "NoThing" = some (some (.ref cNoThing)))
    (g_Twice : PySem.W.nsIn K mainGlobals "Twice" = some (some (.ref cTwice)))
    (g_NoText : PySem.W.nsIn K mainGlobals "NoText" = some (some (.ref cNoText)))
    (g_NoShares : PySem.W.nsIn K mainGlobals "NoShares" = some (some (.ref cNoShares)))
    (g_NoTurns : PySem.W.nsIn K mainGlobals "NoTurns" = some (some (.ref cNoTurns)))
    (g_NoTicket : PySem.W.nsIn K mainGlobals "NoTicket" = some (some (.ref cNoTicket)))
    (g_NoName : PySem.W.nsIn K mainGlobals "NoName" = some (some (.ref cNoName)))
    (g_Double : PySem.W.nsIn K mainGlobals "Double" = some (some (.ref cDouble)))
    (g_NoRow : PySem.W.nsIn K mainGlobals "NoRow" = some (some (.ref cNoRow)))
    (g_NoTable : PySem.W.nsIn K mainGlobals "NoTable" = some (some (.ref cNoTable)))
    (t_L : PySem.W.typeIn K (.ref cLotError) = some (.type "type"))
    (i_L : PySem.W.isClsIn K cLotError = true)
    (e_L : PySem.W.subIn K (.ref cLotError) (.type "BaseException") = some true)
    (x_L : PySem.W.excIn K cLotError mroV "ValueError.__new__" = true)
    (rdL : PySem.W.readsIn K cLotError (.type "type") = true)
    (fcL : PySem.W.findCls K (.ref cLotError) (.type "type") "__init__" = some (.val (.builtin "ValueError.__init__")))
    (sgL : PySem.W.specialIn K (.ref cLotError) "__getattribute__" = some (some (.builtin "type.__getattribute__")))
    (as4 : PySem.W.specialIn K (.builtin "object.__class__") "__get__" = some (some (.builtin "getset_descriptor.__get__")))
    (as5 : PySem.W.takesIn K (.builtin "object.__class__") = some true)
    (x_TooGreat : PySem.W.excIn K cTooGreat mroV "ValueError.__new__" = true)
    (x_NoAsker : PySem.W.excIn K cNoAsker mroV "ValueError.__new__" = true)
    (x_NoNumber : PySem.W.excIn K cNoNumber mroV "ValueError.__new__" = true)
    (obT : K.lookup cNoThing = some ⟨.type "type", dd0T, .cls ⟨nm0T, bs0T, .ref cNoThing :: .ref cLotError :: mroV, ns0T, qn0T, true, sn0T, sub0T, ab0T, col0T, false⟩, #[k00T, k01T, k02T, k03T, some (.builtin "ValueError.__new__"), k05T]⟩)
    (iniT : PySem.W.findIn K (.ref cNoThing) "__init__" = some (some (.ref fIT)))
    (liT : K.lookup fIT = some ⟨ocIT, odIT, .func (PySem.W.fnOf "__init__" "NoThing.__init__" (defArgs s_initT) (defBody s_initT) (defScope s_initT) .none kVIT dcIT pmIT anIT cdIT ctIT), slIT⟩)
    (ciT : PySem.W.codeIn K cdIT "NoThing.__init__" = true)
    (kIT : PySem.W.keepIn K (.ref fIT) = true)
    (fnIT : PySem.W.isFn K (.ref fIT) = true)
    (saT : PySem.W.findIn K (.ref cNoThing) "__setattr__" = some (some (.builtin "object.__setattr__")))
    (kpNT : PySem.W.keepIn K (.ref cNoThing) = true)
    (naNT : PySem.W.findIn K (.ref cNoThing) "asker" = some none)
    (hdNT : PySem.W.hasDictIn K cNoThing = true)
    (obW : K.lookup cTwice = some ⟨.type "type", dd0W, .cls ⟨nm0W, bs0W, .ref cTwice :: .ref cLotError :: mroV, ns0W, qn0W, true, sn0W, sub0W, ab0W, col0W, false⟩, #[k00W, k01W, k02W, k03W, some (.builtin "ValueError.__new__"), k05W]⟩)
    (iniW : PySem.W.findIn K (.ref cTwice) "__init__" = some (some (.ref fIW)))
    (liW : K.lookup fIW = some ⟨ocIW, odIW, .func (PySem.W.fnOf "__init__" "Twice.__init__" (defArgs s_initW) (defBody s_initW) (defScope s_initW) .none kVIW dcIW pmIW anIW cdIW ctIW), slIW⟩)
    (ciW : PySem.W.codeIn K cdIW "Twice.__init__" = true)
    (kIW : PySem.W.keepIn K (.ref fIW) = true)
    (fnIW : PySem.W.isFn K (.ref fIW) = true)
    (saW : PySem.W.findIn K (.ref cTwice) "__setattr__" = some (some (.builtin "object.__setattr__")))
    (kpNW : PySem.W.keepIn K (.ref cTwice) = true)
    (naNW : PySem.W.findIn K (.ref cTwice) "asker" = some none)
    (hdNW : PySem.W.hasDictIn K cTwice = true)
    (s_TooGreat : PySem.W.subIn K (.ref cTooGreat) (.ref cLotError) = some true)
    (as1TooGreat : PySem.W.findIn K (.ref cTooGreat) "__getattribute__" = some (some (.builtin "BaseException.__getattribute__")))
    (as2TooGreat : PySem.W.findIn K (.ref cTooGreat) "__getattr__" = some none)
    (as3TooGreat : PySem.W.findIn K (.ref cTooGreat) "__class__" = some (some (.builtin "object.__class__")))
    (as6TooGreat : PySem.W.mroIn K cTooGreat (.type "object") = some true)
    (as7TooGreat : PySem.W.isClsIn K cTooGreat = true)
    (as8TooGreat : PySem.W.mroIn K cTooGreat (.type "BaseException") = some true)
    (v_TooGreat : PySem.W.kitOne K (.ref cTooGreat) (.type "ValueError") = some true)
    (q0TooGreat : PySem.W.kitOne K (.ref cTooGreat) (.ref cTooGreat) = some true)
    (q1TooGreat : PySem.W.kitOne K (.ref cTooGreat) (.ref cNoAsker) = some false)
    (q2TooGreat : PySem.W.kitOne K (.ref cTooGreat) (.ref cNoNumber) = some false)
    (q3TooGreat : PySem.W.kitOne K (.ref cTooGreat) (.ref cNoThing) = some false)
    (q4TooGreat : PySem.W.kitOne K (.ref cTooGreat) (.ref cTwice) = some false)
    (o_TooGreat_NoText : PySem.W.kitOne K (.ref cTooGreat) (.ref cNoText) = some false)
    (o_TooGreat_NoShares : PySem.W.kitOne K (.ref cTooGreat) (.ref cNoShares) = some false)
    (o_TooGreat_NoTurns : PySem.W.kitOne K (.ref cTooGreat) (.ref cNoTurns) = some false)
    (o_TooGreat_NoTicket : PySem.W.kitOne K (.ref cTooGreat) (.ref cNoTicket) = some false)
    (o_TooGreat_NoName : PySem.W.kitOne K (.ref cTooGreat) (.ref cNoName) = some false)
    (o_TooGreat_Double : PySem.W.kitOne K (.ref cTooGreat) (.ref cDouble) = some false)
    (o_TooGreat_NoRow : PySem.W.kitOne K (.ref cTooGreat) (.ref cNoRow) = some false)
    (o_TooGreat_NoTable : PySem.W.kitOne K (.ref cTooGreat) (.ref cNoTable) = some false)
    (s_NoAsker : PySem.W.subIn K (.ref cNoAsker) (.ref cLotError) = some true)
    (as1NoAsker : PySem.W.findIn K (.ref cNoAsker) "__getattribute__" = some (some (.builtin "BaseException.__getattribute__")))
    (as2NoAsker : PySem.W.findIn K (.ref cNoAsker) "__getattr__" = some none)
    (as3NoAsker : PySem.W.findIn K (.ref cNoAsker) "__class__" = some (some (.builtin "object.__class__")))
    (as6NoAsker : PySem.W.mroIn K cNoAsker (.type "object") = some true)
    (as7NoAsker : PySem.W.isClsIn K cNoAsker = true)
    (as8NoAsker : PySem.W.mroIn K cNoAsker (.type "BaseException") = some true)
    (v_NoAsker : PySem.W.kitOne K (.ref cNoAsker) (.type "ValueError") = some true)
    (q0NoAsker : PySem.W.kitOne K (.ref cNoAsker) (.ref cTooGreat) = some false)
    (q1NoAsker : PySem.W.kitOne K (.ref cNoAsker) (.ref cNoAsker) = some true)
    (q2NoAsker : PySem.W.kitOne K (.ref cNoAsker) (.ref cNoNumber) = some false)
    (q3NoAsker : PySem.W.kitOne K (.ref cNoAsker) (.ref cNoThing) = some false)
    (q4NoAsker : PySem.W.kitOne K (.ref cNoAsker) (.ref cTwice) = some false)
    (o_NoAsker_NoText : PySem.W.kitOne K (.ref cNoAsker) (.ref cNoText) = some false)
    (o_NoAsker_NoShares : PySem.W.kitOne K (.ref cNoAsker) (.ref cNoShares) = some false)
    (o_NoAsker_NoTurns : PySem.W.kitOne K (.ref cNoAsker) (.ref cNoTurns) = some false)
    (o_NoAsker_NoTicket : PySem.W.kitOne K (.ref cNoAsker) (.ref cNoTicket) = some false)
    (o_NoAsker_NoName : PySem.W.kitOne K (.ref cNoAsker) (.ref cNoName) = some false)
    (o_NoAsker_Double : PySem.W.kitOne K (.ref cNoAsker) (.ref cDouble) = some false)
    (o_NoAsker_NoRow : PySem.W.kitOne K (.ref cNoAsker) (.ref cNoRow) = some false)
    (o_NoAsker_NoTable : PySem.W.kitOne K (.ref cNoAsker) (.ref cNoTable) = some false)
    (s_NoNumber : PySem.W.subIn K (.ref cNoNumber) (.ref cLotError) = some true)
    (as1NoNumber : PySem.W.findIn K (.ref cNoNumber) "__getattribute__" = some (some (.builtin "BaseException.__getattribute__")))
    (as2NoNumber : PySem.W.findIn K (.ref cNoNumber) "__getattr__" = some none)
    (as3NoNumber : PySem.W.findIn K (.ref cNoNumber) "__class__" = some (some (.builtin "object.__class__")))
    (as6NoNumber : PySem.W.mroIn K cNoNumber (.type "object") = some true)
    (as7NoNumber : PySem.W.isClsIn K cNoNumber = true)
    (as8NoNumber : PySem.W.mroIn K cNoNumber (.type "BaseException") = some true)
    (v_NoNumber : PySem.W.kitOne K (.ref cNoNumber) (.type "ValueError") = some true)
    (q0NoNumber : PySem.W.kitOne K (.ref cNoNumber) (.ref cTooGreat) = some false)
    (q1NoNumber : PySem.W.kitOne K (.ref cNoNumber) (.ref cNoAsker) = some false)
    (q2NoNumber : PySem.W.kitOne K (.ref cNoNumber) (.ref cNoNumber) = some true)
    (q3NoNumber : PySem.W.kitOne K (.ref cNoNumber) (.ref cNoThing) = some false)
    (q4NoNumber : PySem.W.kitOne K (.ref cNoNumber) (.ref cTwice) = some false)
    (o_NoNumber_NoText : PySem.W.kitOne K (.ref cNoNumber) (.ref cNoText) = some false)
    (o_NoNumber_NoShares : PySem.W.kitOne K (.ref cNoNumber) (.ref cNoShares) = some false)
    (o_NoNumber_NoTurns : PySem.W.kitOne K (.ref cNoNumber) (.ref cNoTurns) = some false)
    (o_NoNumber_NoTicket : PySem.W.kitOne K (.ref cNoNumber) (.ref cNoTicket) = some false)
    (o_NoNumber_NoName : PySem.W.kitOne K (.ref cNoNumber) (.ref cNoName) = some false)
    (o_NoNumber_Double : PySem.W.kitOne K (.ref cNoNumber) (.ref cDouble) = some false)
    (o_NoNumber_NoRow : PySem.W.kitOne K (.ref cNoNumber) (.ref cNoRow) = some false)
    (o_NoNumber_NoTable : PySem.W.kitOne K (.ref cNoNumber) (.ref cNoTable) = some false)
    (s_NoThing : PySem.W.subIn K (.ref cNoThing) (.ref cLotError) = some true)
    (as1NoThing : PySem.W.findIn K (.ref cNoThing) "__getattribute__" = some (some (.builtin "BaseException.__getattribute__")))
    (as2NoThing : PySem.W.findIn K (.ref cNoThing) "__getattr__" = some none)
    (as3NoThing : PySem.W.findIn K (.ref cNoThing) "__class__" = some (some (.builtin "object.__class__")))
    (as6NoThing : PySem.W.mroIn K cNoThing (.type "object") = some true)
    (as7NoThing : PySem.W.isClsIn K cNoThing = true)
    (as8NoThing : PySem.W.mroIn K cNoThing (.type "BaseException") = some true)
    (v_NoThing : PySem.W.kitOne K (.ref cNoThing) (.type "ValueError") = some true)
    (q0NoThing : PySem.W.kitOne K (.ref cNoThing) (.ref cTooGreat) = some false)
    (q1NoThing : PySem.W.kitOne K (.ref cNoThing) (.ref cNoAsker) = some false)
    (q2NoThing : PySem.W.kitOne K (.ref cNoThing) (.ref cNoNumber) = some false)
    (q3NoThing : PySem.W.kitOne K (.ref cNoThing) (.ref cNoThing) = some true)
    (q4NoThing : PySem.W.kitOne K (.ref cNoThing) (.ref cTwice) = some false)
    (o_NoThing_NoText : PySem.W.kitOne K (.ref cNoThing) (.ref cNoText) = some false)
    (o_NoThing_NoShares : PySem.W.kitOne K (.ref cNoThing) (.ref cNoShares) = some false)
    (o_NoThing_NoTurns : PySem.W.kitOne K (.ref cNoThing) (.ref cNoTurns) = some false)
    (o_NoThing_NoTicket : PySem.W.kitOne K (.ref cNoThing) (.ref cNoTicket) = some false)
    (o_NoThing_NoName : PySem.W.kitOne K (.ref cNoThing) (.ref cNoName) = some false)
    (o_NoThing_Double : PySem.W.kitOne K (.ref cNoThing) (.ref cDouble) = some false)
    (o_NoThing_NoRow : PySem.W.kitOne K (.ref cNoThing) (.ref cNoRow) = some false)
    (o_NoThing_NoTable : PySem.W.kitOne K (.ref cNoThing) (.ref cNoTable) = some false)
    (s_Twice : PySem.W.subIn K (.ref cTwice) (.ref cLotError) = some true)
    (as1Twice : PySem.W.findIn K (.ref cTwice) "__getattribute__" = some (some (.builtin "BaseException.__getattribute__")))
    (as2Twice : PySem.W.findIn K (.ref cTwice) "__getattr__" = some none)
    (as3Twice : PySem.W.findIn K (.ref cTwice) "__class__" = some (some (.builtin "object.__class__")))
    (as6Twice : PySem.W.mroIn K cTwice (.type "object") = some true)
    (as7Twice : PySem.W.isClsIn K cTwice = true)
    (as8Twice : PySem.W.mroIn K cTwice (.type "BaseException") = some true)
    (v_Twice : PySem.W.kitOne K (.ref cTwice) (.type "ValueError") = some true)
    (q0Twice : PySem.W.kitOne K (.ref cTwice) (.ref cTooGreat) = some false)
    (q1Twice : PySem.W.kitOne K (.ref cTwice) (.ref cNoAsker) = some false)
    (q2Twice : PySem.W.kitOne K (.ref cTwice) (.ref cNoNumber) = some false)
    (q3Twice : PySem.W.kitOne K (.ref cTwice) (.ref cNoThing) = some false)
    (q4Twice : PySem.W.kitOne K (.ref cTwice) (.ref cTwice) = some true)
    (o_Twice_NoText : PySem.W.kitOne K (.ref cTwice) (.ref cNoText) = some false)
    (o_Twice_NoShares : PySem.W.kitOne K (.ref cTwice) (.ref cNoShares) = some false)
    (o_Twice_NoTurns : PySem.W.kitOne K (.ref cTwice) (.ref cNoTurns) = some false)
    (o_Twice_NoTicket : PySem.W.kitOne K (.ref cTwice) (.ref cNoTicket) = some false)
    (o_Twice_NoName : PySem.W.kitOne K (.ref cTwice) (.ref cNoName) = some false)
    (o_Twice_Double : PySem.W.kitOne K (.ref cTwice) (.ref cDouble) = some false)
    (o_Twice_NoRow : PySem.W.kitOne K (.ref cTwice) (.ref cNoRow) = some false)
    (o_Twice_NoTable : PySem.W.kitOne K (.ref cTwice) (.ref cNoTable) = some false)
    : ∃ fd : FuncData, (∀ (s : Shared) (v : Value), BindsTo s fd ⟨[v], []⟩ [("_law_script", v)]) ∧ ∀ base : Heap, K.In base → base.Ns mainGlobals mg → FnOk l.prog w K mg base CX0 7 fa fd ["_law_script"] (spLaw K) := by
  have e := hfa.symm.trans (PySem.W.mg_of X G a13)
  cases e
  have T : Txt mg := ⟨PySem.W.mg_none_of X G z_isinstance, PySem.W.mg_none_of X G z_int, PySem.W.mg_none_of X G z_bool, PySem.W.mg_none_of X G z_list, PySem.W.mg_none_of X G z_tuple, PySem.W.mg_none_of X G z_len, PySem.W.mg_none_of X G z_range, PySem.W.mg_none_of X G z_zip, PySem.W.mg_none_of X G z_any, PySem.W.mg_none_of X G z_enumerate, PySem.W.mg_none_of X G z_set, ⟨_, PySem.W.mg_of X G g_MOST⟩, ⟨_, PySem.W.mg_of X G g_MOST_COUNT⟩⟩
  let cs : Cs08 := ⟨cLotError, cTooGreat, cNoAsker, cNoNumber, cNoThing, cTwice, cNoText, cNoShares, cNoTurns, cNoTicket, cNoName, cDouble, cNoRow, cNoTable⟩
  have U : Txt08 K mg cs fIT fIW := ⟨PySem.W.mg_none_of X G z_ValueError, ⟨PySem.W.mg_of X G g_LotError, t_L, i_L, e_L⟩, PySem.W.mg_of X G g_TooGreat, PySem.W.mg_of X G g_NoAsker, PySem.W.mg_of X G g_NoNumber, PySem.W.mg_of X G g_NoThing, PySem.W.mg_of X G g_Twice, PySem.W.mg_of X G g_NoText, PySem.W.mg_of X G g_NoShares, PySem.W.mg_of X G g_NoTurns, PySem.W.mg_of X G g_NoTicket, PySem.W.mg_of X G g_NoName, PySem.W.mg_of X G g_Double, PySem.W.mg_of X G g_NoRow, PySem.W.mg_of X G g_NoTable, x_TooGreat, x_NoAsker, x_NoNumber, ⟨⟨dd0T, nm0T, bs0T, ns0T, qn0T, sn0T, sub0T, ab0T, col0T, k00T, k01T, k02T, k03T, k05T, obT⟩, x_L, iniT, fnIT, saT, kpNT, rdL, fcL, sgL⟩, ⟨⟨dd0W, nm0W, bs0W, ns0W, qn0W, sn0W, sub0W, ab0W, col0W, k00W, k01W, k02W, k03W, k05W, obW⟩, x_L, iniW, fnIW, saW, kpNW, rdL, fcL, sgL⟩, naNT, naNW, hdNT, hdNW, ⟨s_TooGreat, ⟨as1TooGreat, as2TooGreat, as3TooGreat, as4, as5, as6TooGreat, as7TooGreat, as8TooGreat⟩, v_TooGreat, q0TooGreat, q1TooGreat, q2TooGreat, q3TooGreat, q4TooGreat, o_TooGreat_NoText, o_TooGreat_NoShares, o_TooGreat_NoTurns, o_TooGreat_NoTicket, o_TooGreat_NoName, o_TooGreat_Double, o_TooGreat_NoRow, o_TooGreat_NoTable⟩, ⟨s_NoAsker, ⟨as1NoAsker, as2NoAsker, as3NoAsker, as4, as5, as6NoAsker, as7NoAsker, as8NoAsker⟩, v_NoAsker, q0NoAsker, q1NoAsker, q2NoAsker, q3NoAsker, q4NoAsker, o_NoAsker_NoText, o_NoAsker_NoShares, o_NoAsker_NoTurns, o_NoAsker_NoTicket, o_NoAsker_NoName, o_NoAsker_Double, o_NoAsker_NoRow, o_NoAsker_NoTable⟩, ⟨s_NoNumber, ⟨as1NoNumber, as2NoNumber, as3NoNumber, as4, as5, as6NoNumber, as7NoNumber, as8NoNumber⟩, v_NoNumber, q0NoNumber, q1NoNumber, q2NoNumber, q3NoNumber, q4NoNumber, o_NoNumber_NoText, o_NoNumber_NoShares, o_NoNumber_NoTurns, o_NoNumber_NoTicket, o_NoNumber_NoName, o_NoNumber_Double, o_NoNumber_NoRow, o_NoNumber_NoTable⟩, ⟨s_NoThing, ⟨as1NoThing, as2NoThing, as3NoThing, as4, as5, as6NoThing, as7NoThing, as8NoThing⟩, v_NoThing, q0NoThing, q1NoThing, q2NoThing, q3NoThing, q4NoThing, o_NoThing_NoText, o_NoThing_NoShares, o_NoThing_NoTurns, o_NoThing_NoTicket, o_NoThing_NoName, o_NoThing_Double, o_NoThing_NoRow, o_NoThing_NoTable⟩, ⟨s_Twice, ⟨as1Twice, as2Twice, as3Twice, as4, as5, as6Twice, as7Twice, as8Twice⟩, v_Twice, q0Twice, q1Twice, q2Twice, q3Twice, q4Twice, o_Twice_NoText, o_Twice_NoShares, o_Twice_NoTurns, o_Twice_NoTicket, o_Twice_NoName, o_Twice_Double, o_Twice_NoRow, o_Twice_NoTable⟩⟩
  have FIT := funD_mk (st := s_initT) liT ciT kIT
  have bIT := FIT.binds (ps := ["self", "asker"]) fun _ _ _ _ _ _ us hl => by
    obtain ⟨_, _, rfl⟩ := us2 hl
    rfl
  have OIT := fun base => ok_initT (P := l.prog) (w := w) (base := base) FIT U
  have FIW := funD_mk (st := s_initW) liW ciW kIW
  have bIW := FIW.binds (ps := ["self", "asker"]) fun _ _ _ _ _ _ us hl => by
    obtain ⟨_, _, rfl⟩ := us2 hl
    rfl
  have OIW := fun base => ok_initW (P := l.prog) (w := w) (base := base) FIW U
  have F1 := fun_mk (st := s_check_orders) l1 c1 k1
  have b1 := F1.binds (ps := ["orders", "many"]) fun _ _ _ _ _ _ us hl => by
    obtain ⟨_, _, rfl⟩ := us2 hl
    rfl
  have F2 := fun_mk (st := s_table_of) l2 c2 k2
  have b2 := F2.binds (ps := ["counts", "orders"]) fun _ _ _ _ _ _ us hl => by
    obtain ⟨_, _, rfl⟩ := us2 hl
    rfl
  have F3 := fun_mk (st := s_check_asker) l3 c3 k3
  have b3 := F3.binds (ps := ["table", "asker"]) fun _ _ _ _ _ _ us hl => by
    obtain ⟨_, _, rfl⟩ := us2 hl
    rfl
  have F4 := fun_mk (st := s_told_otherwise) l4 c4 k4
  have b4 := F4.binds (ps := ["table", "asker", "order"]) fun _ _ _ _ _ _ us hl => by
    obtain ⟨_, _, _, rfl⟩ := us3 hl
    rfl
  have F5 := fun_mk (st := s__law_cell_at) l5 c5 k5
  have b5 := F5.binds (ps := ["_law_script", "_law_k"]) fun _ _ _ _ _ _ us hl => by
    obtain ⟨_, _, rfl⟩ := us2 hl
    rfl
  have F6 := fun_mk (st := s__law_order) l6 c6 k6
  have b6 := F6.binds (ps := ["_law_cell", "_law_many"]) fun _ _ _ _ _ _ us hl => by
    obtain ⟨_, _, rfl⟩ := us2 hl
    rfl
  have F7 := fun_mk (st := s__law_table) l7 c7 k7
  have b7 := F7.binds (ps := ["_law_script", "_law_start", "_law_things", "_law_askers"]) fun _ _ _ _ _ _ us hl => by
    obtain ⟨_, _, _, _, rfl⟩ := us4 hl
    rfl
  have F8 := fun_mk (st := s__law_classes) l8 c8 k8
  have b8 := F8.binds (ps := ["_law_e"]) fun _ _ _ _ _ _ us hl => by
    obtain ⟨_, rfl⟩ := us1 hl
    rfl
  have F9 := fun_mk (st := s__law_told) l9 c9 k9
  have b9 := F9.binds (ps := ["_law_table_here", "_law_asker", "_law_order_here"]) fun _ _ _ _ _ _ us hl => by
    obtain ⟨_, _, _, rfl⟩ := us3 hl
    rfl
  have F10 := fun_mk (st := s__law_spoiled) l10 c10 k10
  have b10 := F10.binds (ps := ["_law_order_here", "_law_many", "_law_cell", "_law_far"]) fun _ _ _ _ _ _ us hl => by
    obtain ⟨_, _, _, _, rfl⟩ := us4 hl
    rfl
  have F11 := fun_mk (st := s__law_due) l11 c11 k11
  have b11 := F11.binds (ps := ["_law_order_here", "_law_many", "_law_asker"]) fun _ _ _ _ _ _ us hl => by
    obtain ⟨_, _, _, rfl⟩ := us3 hl
    rfl
  have F12 := fun_mk (st := s__law_kept_apart) l12 c12 k12
  have b12 := F12.binds (ps := ["_law_table_here", "_law_asker", "_law_order_here", "_law_made"]) fun _ _ _ _ _ _ us hl => by
    obtain ⟨_, _, _, _, rfl⟩ := us4 hl
    rfl
  have F13 := fun_mk (st := s_law) l13 c13 k13
  refine ⟨PySem.W.fnOf "law" "law" (defArgs s_law) (defBody s_law) (defScope s_law) .none kV13 dc13 pm13 an13 cd13 ct13, fun s v => .of_eq rfl, fun base _ _ => ?_⟩
  have K1 := Kn.mk (base := base) (P := l.prog) (w := w) (ok_check_orders (k := 0) F1 T ) (PySem.W.mg_of X G a1) k1 b1
  have KX1 := Kn.mk (base := base) (P := l.prog) (w := w) (ok_check_ordersX (k := 0) F1 T U (OIT base) bIT (OIW base) bIW) (PySem.W.mg_of X G a1) k1 b1
  have K2 := Kn.mk (base := base) (P := l.prog) (w := w) (ok_table_of (k := 0) F2 T K1) (PySem.W.mg_of X G a2) k2 b2
  have KX2 := Kn.mk (base := base) (P := l.prog) (w := w) (ok_table_ofX (k := 0) F2 T U KX1) (PySem.W.mg_of X G a2) k2 b2
  have K3 := Kn.mk (base := base) (P := l.prog) (w := w) (ok_check_asker (k := 0) F3 T ) (PySem.W.mg_of X G a3) k3 b3
  have KX3 := Kn.mk (base := base) (P := l.prog) (w := w) (ok_check_askerX (k := 0) F3 T U) (PySem.W.mg_of X G a3) k3 b3
  have K4 := Kn.mk (base := base) (P := l.prog) (w := w) (ok_told_otherwise (k := 0) F4 T K3 K2) (PySem.W.mg_of X G a4) k4 b4
  have KX4 := Kn.mk (base := base) (P := l.prog) (w := w) (ok_told_otherwiseX (k := 0) F4 T U K3 KX3 KX2) (PySem.W.mg_of X G a4) k4 b4
  have K5 := Kn.mk (base := base) (P := l.prog) (w := w) (ok__law_cell_at (k := 0) F5 T ) (PySem.W.mg_of X G a5) k5 b5
  have K6 := Kn.mk (base := base) (P := l.prog) (w := w) (ok__law_order (k := 0) F6 T ) (PySem.W.mg_of X G a6) k6 b6
  have K7 := Kn.mk (base := base) (P := l.prog) (w := w) (ok__law_table (k := 0) F7 T K5 K6) (PySem.W.mg_of X G a7) k7 b7
  have K8 := KnH.mk (base := base) (P := l.prog) (w := w) (ok__law_classes F8 T U) (PySem.W.mg_of X G a8) k8 b8
  have K9 := Kn.mk (base := base) (P := l.prog) (w := w) (ok__law_told (k := 0) F9 T U K4 KX4 K8) (PySem.W.mg_of X G a9) k9 b9
  have K10 := Kn.mk (base := base) (P := l.prog) (w := w) (ok__law_spoiled (k := 0) F10 T ) (PySem.W.mg_of X G a10) k10 b10
  have K11 := Kn.mk (base := base) (P := l.prog) (w := w) (ok__law_due (k := 0) F11 T ) (PySem.W.mg_of X G a11) k11 b11
  have K12 := Kn.mk (base := base) (P := l.prog) (w := w) (ok__law_kept_apart (k := 0) F12 T ) (PySem.W.mg_of X G a12) k12 b12
  exact law_ok (ok_law (k := 0) F13 T K5 K6 K7 K9 K10 K11 K12)
theorem walk {l : PySem.W.OpenLaw} {q : Program} {loose : List Str} {XP : (Str → Option Value) → Heap → Prop} {YP : World → Heap → Prop} {d : DefRec} {K : Params → PySem.W.Frag} (hn : l.most = some 63) (hdf : d.params.defaults = [])
    (hY : ∀ (w : World) (h : Heap), YP w h → (K w.params).In h)
    (F : ∀ (w : World) (mg : Str → Option Value) (fa : Addr) (h : Heap), (K w.params).In h → h.Ns mainGlobals mg → mg d.name = some (.ref fa) →
      ∃ fd : FuncData, (∀ (s : Shared) (u : Value), BindsTo s fd ⟨[u], []⟩ [("_law_script", u)]) ∧ ∀ base : Heap, (K w.params).In base → base.Ns mainGlobals mg → FnOk l.prog w (K w.params) mg base CX0 7 fa fd ["_law_script"] (spLaw (K w.params))) :
    PySem.W.WalkO q loose XP YP l.row.toRowW d [] (fun f vs => PySem.call f vs) :=
  L2.walk_of (n := 63) (k := 7) (x := "_law_script") (CX := fun _ => CX0) (sp := fun w => spLaw (K w.params)) hn (by decide) hdf ⟨rfl, by decide, by decide⟩ hY F (fun _ _ a ns hl _ hS => ⟨a, ns, rfl, hS, hl, fun _ => rfl⟩) fun _ _ _ _ _ z => z
end K46
open PySem PySem.W PyProof.Rows
set_option maxRecDepth 100000 in
set_option maxHeartbeats 0 in
theorem PySem.Challenge.cw_lotmeal_k46_told_otherwise_holds : PySem.Challenge.rw_lotmeal_k46_told_otherwise.Holds := by
  w_on; o_law; k_head; (case hw => w_witness2)
  k_fill
  refine K46.walk (l := PySem.Challenge.rw_lotmeal_k46_told_otherwise) rfl rfl (fun w h Y => PySem.W.kIn_of Y) ?F
  case F =>
    intro w mg fa h KX G hmg
    refine' K46.all_mk KX G hmg ?a1 ?l1 ?c1 ?k1 ?a2 ?l2 ?c2 ?k2 ?a3 ?l3 ?c3 ?k3 ?a4 ?l4 ?c4 ?k4 ?a5 ?l5 ?c5 ?k5 ?a6 ?l6 ?c6 ?k6 ?a7 ?l7 ?c7 ?k7 ?a8 ?l8 ?c8 ?k8 ?a9 ?l9 ?c9 ?k9 ?a10 ?l10 ?c10 ?k10 ?a11 ?l11 ?c11 ?k11 ?a12 ?l12 ?c12 ?k12 ?a13 ?l13 ?c13 ?k13 ?z_isinstance ?z_int ?z_bool ?z_list ?z_tuple ?z_len ?z_range ?z_zip ?z_any ?z_enumerate ?z_set ?z_ValueError ?g_MOST ?g_MOST_COUNT ?g_LotError ?g_TooGreat ?g_NoAsker ?g_NoNumber ?g_NoThing ?g_Twice ?g_NoText ?g_NoShares ?g_NoTurns ?g_NoTicket ?g_NoName ?g_Double ?g_NoRow ?g_NoTable ?t_L ?i_L ?e_L ?x_L ?rdL ?fcL ?sgL ?as4 ?as5 ?x_TooGreat ?x_NoAsker ?x_NoNumber ?obT ?iniT ?liT ?ciT ?kIT ?fnIT ?saT ?kpNT ?naNT ?hdNT ?obW ?iniW ?liW ?ciW ?kIW ?fnIW ?saW ?kpNW ?naNW ?hdNW ?s_TooGreat ?as1TooGreat ?as2TooGreat ?as3TooGreat ?as6TooGreat ?as7TooGreat ?as8TooGreat ?v_TooGreat ?q0TooGreat ?q1TooGreat ?q2TooGreat ?q3TooGreat ?q4TooGreat ?o_TooGreat_NoText ?o_TooGreat_NoShares ?o_TooGreat_NoTurns ?o_TooGreat_NoTicket ?o_TooGreat_NoName ?o_TooGreat_Double ?o_TooGreat_NoRow ?o_TooGreat_NoTable ?s_NoAsker ?as1NoAsker ?as2NoAsker ?as3NoAsker ?as6NoAsker ?as7NoAsker ?as8NoAsker ?v_NoAsker ?q0NoAsker ?q1NoAsker ?q2NoAsker ?q3NoAsker ?q4NoAsker ?o_NoAsker_NoText ?o_NoAsker_NoShares ?o_NoAsker_NoTurns ?o_NoAsker_NoTicket ?o_NoAsker_NoName ?o_NoAsker_Double ?o_NoAsker_NoRow ?o_NoAsker_NoTable ?s_NoNumber ?as1NoNumber ?as2NoNumber ?as3NoNumber ?as6NoNumber ?as7NoNumber ?as8NoNumber ?v_NoNumber ?q0NoNumber ?q1NoNumber ?q2NoNumber ?q3NoNumber ?q4NoNumber ?o_NoNumber_NoText ?o_NoNumber_NoShares ?o_NoNumber_NoTurns ?o_NoNumber_NoTicket ?o_NoNumber_NoName ?o_NoNumber_Double ?o_NoNumber_NoRow ?o_NoNumber_NoTable ?s_NoThing ?as1NoThing ?as2NoThing ?as3NoThing ?as6NoThing ?as7NoThing ?as8NoThing ?v_NoThing ?q0NoThing ?q1NoThing ?q2NoThing ?q3NoThing ?q4NoThing ?o_NoThing_NoText ?o_NoThing_NoShares ?o_NoThing_NoTurns ?o_NoThing_NoTicket ?o_NoThing_NoName ?o_NoThing_Double ?o_NoThing_NoRow ?o_NoThing_NoTable ?s_Twice ?as1Twice ?as2Twice ?as3Twice ?as6Twice ?as7Twice ?as8Twice ?v_Twice ?q0Twice ?q1Twice ?q2Twice ?q3Twice ?q4Twice ?o_Twice_NoText ?o_Twice_NoShares ?o_Twice_NoTurns ?o_Twice_NoTicket ?o_Twice_NoName ?o_Twice_Double ?o_Twice_NoRow ?o_Twice_NoTable
    (case a1 => k_is)
    (case l1 => k_is)
    (case c1 => k_is)
    (case k1 => k_is)
    (case a2 => k_is)
    (case l2 => k_is)
    (case c2 => k_is)
    (case k2 => k_is)
    (case a3 => k_is)
    (case l3 => k_is)
    (case c3 => k_is)
    (case k3 => k_is)
    (case a4 => k_is)
    (case l4 => k_is)
    (case c4 => k_is)
    (case k4 => k_is)
    (case a5 => k_is)
    (case l5 => k_is)
    (case c5 => k_is)
    (case k5 => k_is)
    (case a6 => k_is)
    (case l6 => k_is)
    (case c6 => k_is)
    (case k6 => k_is)
    (case a7 => k_is)
    (case l7 => k_is)
    (case c7 => k_is)
    (case k7 => k_is)
    (case a8 => k_is)
    (case l8 => k_is)
    (case c8 => k_is)
    (case k8 => k_is)
    (case a9 => k_is)
    (case l9 => k_is)
    (case c9 => k_is)
    (case k9 => k_is)
    (case a10 => k_is)
    (case l10 => k_is)
    (case c10 => k_is)
    (case k10 => k_is)
    (case a11 => k_is)
    (case l11 => k_is)
    (case c11 => k_is)
    (case k11 => k_is)
    (case a12 => k_is)
    (case l12 => k_is)
    (case c12 => k_is)
    (case k12 => k_is)
    (case a13 => k_is)
    (case l13 => k_is)
    (case c13 => k_is)
    (case k13 => k_is)
    (case z_isinstance => k_is)
    (case z_int => k_is)
    (case z_bool => k_is)
    (case z_list => k_is)
    (case z_tuple => k_is)
    (case z_len => k_is)
    (case z_range => k_is)
    (case z_zip => k_is)
    (case z_any => k_is)
    (case z_enumerate => k_is)
    (case z_set => k_is)
    (case z_ValueError => k_is)
    (case g_MOST => k_is)
    (case g_MOST_COUNT => k_is)
    (case g_LotError => k_is)
    (case g_TooGreat => k_is)
    (case g_NoAsker => k_is)
    (case g_NoNumber => k_is)
    (case g_NoThing => k_is)
    (case g_Twice => k_is)
    (case g_NoText => k_is)
    (case g_NoShares => k_is)
    (case g_NoTurns => k_is)
    (case g_NoTicket => k_is)
    (case g_NoName => k_is)
    (case g_Double => k_is)
    (case g_NoRow => k_is)
    (case g_NoTable => k_is)
    (case t_L => k_is)
    (case i_L => k_is)
    (case e_L => k_is)
    (case x_L => k_exc)
    (case rdL => k_is)
    (case fcL => k_is)
    (case sgL => k_is)
    (case as4 => k_is)
    (case as5 => k_is)
    (case x_TooGreat => k_exc)
    (case x_NoAsker => k_exc)
    (case x_NoNumber => k_exc)
    (case obT => k_is)
    (case iniT => k_is)
    (case liT => k_is)
    (case ciT => k_is)
    (case kIT => k_is)
    (case fnIT => k_is)
    (case saT => k_is)
    (case kpNT => k_is)
    (case naNT => k_is)
    (case hdNT => k_is)
    (case obW => k_is)
    (case iniW => k_is)
    (case liW => k_is)
    (case ciW => k_is)
    (case kIW => k_is)
    (case fnIW => k_is)
    (case saW => k_is)
    (case kpNW => k_is)
    (case naNW => k_is)
    (case hdNW => k_is)
    (case s_TooGreat => k_is)
    (case as1TooGreat => k_is)
    (case as2TooGreat => k_is)
    (case as3TooGreat => k_is)
    (case as6TooGreat => k_is)
    (case as7TooGreat => k_is)
    (case as8TooGreat => k_is)
    (case v_TooGreat => kit_is)
    (case q0TooGreat => kit_is)
    (case q1TooGreat => kit_is)
    (case q2TooGreat => kit_is)
    (case q3TooGreat => kit_is)
    (case q4TooGreat => kit_is)
    (case o_TooGreat_NoText => kit_is)
    (case o_TooGreat_NoShares => kit_is)
    (case o_TooGreat_NoTurns => kit_is)
    (case o_TooGreat_NoTicket => kit_is)
    (case o_TooGreat_NoName => kit_is)
    (case o_TooGreat_Double => kit_is)
    (case o_TooGreat_NoRow => kit_is)
    (case o_TooGreat_NoTable => kit_is)
    (case s_NoAsker => k_is)
    (case as1NoAsker => k_is)
    (case as2NoAsker => k_is)
    (case as3NoAsker => k_is)
    (case as6NoAsker => k_is)
    (case as7NoAsker => k_is)
    (case as8NoAsker => k_is)
    (case v_NoAsker => kit_is)
    (case q0NoAsker => kit_is)
    (case q1NoAsker => kit_is)
    (case q2NoAsker => kit_is)
    (case q3NoAsker => kit_is)
    (case q4NoAsker => kit_is)
    (case o_NoAsker_NoText => kit_is)
    (case o_NoAsker_NoShares => kit_is)
    (case o_NoAsker_NoTurns => kit_is)
    (case o_NoAsker_NoTicket => kit_is)
    (case o_NoAsker_NoName => kit_is)
    (case o_NoAsker_Double => kit_is)
    (case o_NoAsker_NoRow => kit_is)
    (case o_NoAsker_NoTable => kit_is)
    (case s_NoNumber => k_is)
    (case as1NoNumber => k_is)
    (case as2NoNumber => k_is)
    (case as3NoNumber => k_is)
    (case as6NoNumber => k_is)
    (case as7NoNumber => k_is)
    (case as8NoNumber => k_is)
    (case v_NoNumber => kit_is)
    (case q0NoNumber => kit_is)
    (case q1NoNumber => kit_is)
    (case q2NoNumber => kit_is)
    (case q3NoNumber => kit_is)
    (case q4NoNumber => kit_is)
    (case o_NoNumber_NoText => kit_is)
    (case o_NoNumber_NoShares => kit_is)
    (case o_NoNumber_NoTurns => kit_is)
    (case o_NoNumber_NoTicket => kit_is)
    (case o_NoNumber_NoName => kit_is)
    (case o_NoNumber_Double => kit_is)
    (case o_NoNumber_NoRow => kit_is)
    (case o_NoNumber_NoTable => kit_is)
    (case s_NoThing => k_is)
    (case as1NoThing => k_is)
    (case as2NoThing => k_is)
    (case as3NoThing => k_is)
    (case as6NoThing => k_is)
    (case as7NoThing => k_is)
    (case as8NoThing => k_is)
    (case v_NoThing => kit_is)
    (case q0NoThing => kit_is)
    (case q1NoThing => kit_is)
    (case q2NoThing => kit_is)
    (case q3NoThing => kit_is)
    (case q4NoThing => kit_is)
    (case o_NoThing_NoText => kit_is)
    (case o_NoThing_NoShares => kit_is)
    (case o_NoThing_NoTurns => kit_is)
    (case o_NoThing_NoTicket => kit_is)
    (case o_NoThing_NoName => kit_is)
    (case o_NoThing_Double => kit_is)
    (case o_NoThing_NoRow => kit_is)
    (case o_NoThing_NoTable => kit_is)
    (case s_Twice => k_is)
    (case as1Twice => k_is)
    (case as2Twice => k_is)
    (case as3Twice => k_is)
    (case as6Twice => k_is)
    (case as7Twice => k_is)
    (case as8Twice => k_is)
    (case v_Twice => kit_is)
    (case q0Twice => kit_is)
    (case q1Twice => kit_is)
    (case q2Twice => kit_is)
    (case q3Twice => kit_is)
    (case q4Twice => kit_is)
    (case o_Twice_NoText => kit_is)
    (case o_Twice_NoShares => kit_is)
    (case o_Twice_NoTurns => kit_is)
    (case o_Twice_NoTicket => kit_is)
    (case o_Twice_NoName => kit_is)
    (case o_Twice_Double => kit_is)
    (case o_Twice_NoRow => kit_is)
    (case o_Twice_NoTable => kit_is)
#print axioms PySem.Challenge.cw_lotmeal_k46_told_otherwise_holds
